/-
  Texts of one seat, joined: Short2 Back Guess Away.
-/
import Derived.Test.YtdgbplppabalgaaGreatDoorJ7
import Derived.Test.YtdgbplppabalgaaGreatDoorJ2
import Derived.Deep.QuietTactic
import Derived.BigQuiet
namespace Go.Proofs.YtdgbplppabalgaaGreatDoor
open Go.RowKit

theorem div64_any (hi lo y : Nat) (hy : hi < y) (hy2 : y < 18446744073709551616) (hlo : lo < 18446744073709551616) (w : World) :
    Calls Tryz.prog 211 #[.int .u64 hi, .int .u64 lo, .int .u64 y] w fun e w' => e = .returned (.tuple #[.int .u64 (((hi * 18446744073709551616 + lo) / y : Nat) : Int), .int .u64 (((hi * 18446744073709551616 + lo) % y : Nat) : Int)]) ∧ Below w.heap.size w w' := by
  by_cases h : hi = 0
  · subst h
    rw [Nat.zero_mul, Nat.zero_add]
    exact div64_small lo y hy hlo w
  · refine (div64_big hi lo y (by omega) hy hy2 hlo w).mono ?_
    rintro e w' ⟨rfl, rfl⟩
    exact ⟨rfl, Below.refl _ _⟩

set_option maxHeartbeats 800000 in
set_option maxRecDepth 100000 in
theorem takeShort_any (rest piece n : Nat) (hr : rest < n) (hp : piece < 1000000000) (hn : n < 18446744073709551616) (w : World) :
    Calls Tryz.prog 188 #[.int .u64 rest, .int .u64 piece, .int .u64 n] w fun e w' => e = .returned (.tuple #[.int .u64 (((rest * 1000000000 + piece) / n : Nat) : Int), .int .u64 (((rest * 1000000000 + piece) % n : Nat) : Int)]) ∧ Below w.heap.size w w' := by
  have hm := Tryz.bits_Mul64 rest 1000000000 (by omega) (by omega) w
  obtain ⟨V, hV⟩ : ∃ V : Nat, V = rest * 1000000000 := ⟨_, rfl⟩
  rw [← hV] at hm ⊢
  obtain ⟨hi, hhi⟩ : ∃ hi : Nat, hi = V / 18446744073709551616 := ⟨_, rfl⟩
  obtain ⟨lo, hlo⟩ : ∃ lo : Nat, lo = V % 18446744073709551616 := ⟨_, rfl⟩
  rw [← hhi, ← hlo] at hm
  obtain ⟨c, hc⟩ : ∃ c : Nat, c = (lo + piece) / 18446744073709551616 := ⟨_, rfl⟩
  obtain ⟨l2, hl2⟩ : ∃ l2 : Nat, l2 = (lo + piece) % 18446744073709551616 := ⟨_, rfl⟩
  obtain ⟨h2, hh2⟩ : ∃ h2 : Nat, h2 = hi + c := ⟨_, rfl⟩
  have ha' : ∀ wx, (callFunc 174 #[.int .u64 (lo : Int), .int .u64 (piece : Int), .int .u64 0]).run Tryz.prog wx = .ok (.value (.tuple #[.int .u64 (l2 : Int), .int .u64 (c : Int)])) wx := fun wx => by
    have h := Tryz.bits_Add64 lo piece 0 (by omega) wx
    rw [Nat.add_zero, ← hc, ← hl2] at h
    exact h
  have hsi : (hi : Int) + (c : Int) = (h2 : Int) := by omega
  have hlt : h2 < n := by omega
  have hd := fun wx => div64_any h2 l2 n hlt hn (by omega) wx
  rw [show h2 * 18446744073709551616 + l2 = V + piece by omega] at hd
  have hw2 : IntKind.u64.wrap (h2 : Int) = (h2 : Int) := by rw [IntKind.wrap_u64]; omega
  have HM := Lib.hid hm
  have HD := Lib.hid hd
  clear hm hd hV hhi hlo hc hl2 hh2
  go_enter Tryz.func188, Tryz.ntmps188
  go_wp2_with (first
    | (go_at_call 127; refine HM.out.mono ?_; rintro e w' ⟨rfl, rfl⟩)
    | (go_at_call 211; refine (HD.out _).mono ?_; rintro e w' ⟨rfl, hb⟩))
  go_ret2
  exact ⟨rfl, hb⟩

set_option maxHeartbeats 3200000 in
set_option maxRecDepth 100000 in
theorem divideShort_any (B g cap : Nat) (p : List Nat) (n : Nat) (w : World) (h : Row w B g cap p) (h9 : lt9 p) (hn0 : 0 < n) (hn1 : n < 18446744073709551616) (hl : p.length ≤ 200000) :
    Calls Tryz.prog 203 #[.slice (some ⟨g, 0, none⟩) p.length cap, .int .u64 n] w fun e w' => ∃ (g' cap' : Nat) (q : List Nat), e = .returned (.tuple #[.slice (some ⟨g', 0, none⟩) q.length cap', .int .u64 ((pv p % n : Nat) : Int)]) ∧ Pcs q (pv p / n) ∧ Row w' w.heap.size g' cap' q ∧ Below w.heap.size w w' := by
  have hlc := h.len_cap
  unfold maxLen at hlc
  obtain ⟨i0, hi, hz0, hz1, hz2⟩ := info_parts info64
  have HH := Lib.hid h
  have H9 := Lib.hid h9
  clear h h9
  go_enter Tryz.func203, Tryz.ntmps203
  go_wp2_with (at_make; refine wpList_make_full _ rfl _ _ 161 rfl w.heap.size 135 i0 (.int .u64 0) 1 Tryz.underlying161 hi hz0 hz1 .i64 .i64 _ _ p.length rfl rfl (by omega) (by omega) (by rw [hz2]; omega) (by unfold maxLen; omega) (Nat.le_refl _) ?_; intro w0 hown0 hgrow0)
  have hbel0 : Below w.heap.size w w0 := (Below.refl _ _).grown hgrow0 (Nat.le_refl _) (by intro k hk; cases hk)
  have hrow0 := Row.made hown0
  clear hown0 hgrow0
  go_wp2_with fail
  go_loopw [5, 6] (fun rv iv wr => ∃ (k r : Nat) (E : Int), iv = .int .i64 E ∧ k ≤ p.length ∧ -1 ≤ E ∧ E < p.length ∧ rv = .int .u64 r ∧ r < n ∧ Hid (E = (k : Int) - 1 ∧ r = (divS n (p.drop k)).2) ∧ Row wr w.heap.size w.heap.size p.length (z0 k (divS n (p.drop k)).1) ∧ Below w.heap.size w wr) (fun _ iv _ => (intOf iv + 1).toNat)
  case atStart =>
    refine ⟨p.length, 0, (p.length : Int) - 1, rfl, Nat.le_refl _, by omega, by omega, rfl, hn0, ⟨rfl, ?_⟩, ?_, hbel0⟩
    · rw [List.drop_length]; rfl
    · rw [List.drop_length]; exact hrow0
  case round =>
    obtain ⟨k, r, E, rfl, hk, hE1, hE2, rfl, hr, HI, hrow, hbel⟩ := hrel
    have hkE := HI.1
    by_cases hE : 0 ≤ E
    · obtain ⟨j, rfl⟩ : ∃ j : Nat, E = j := ⟨E.toNat, by omega⟩
      obtain rfl : k = j + 1 := by omega
      have hj : j < p.length := by omega
      have hcell := (HH.out.below hbel).cell j hj
      have hx9 := lt9_at H9.out j hj
      have hds := divS_drop n p j hj
      obtain ⟨x, hx⟩ : ∃ x : Nat, x = p[j] := ⟨_, rfl⟩
      rw [← hx] at hcell hx9 hds
      have hts := takeShort_any r x n hr hx9 hn1 wr
      rw [← HI.2] at hds
      obtain ⟨d, hd⟩ : ∃ d : Nat, d = (r * 1000000000 + x) / n := ⟨_, rfl⟩
      obtain ⟨m, hm⟩ : ∃ m : Nat, m = (r * 1000000000 + x) % n := ⟨_, rfl⟩
      have hmn : m < n := by rw [hm]; exact Nat.mod_lt _ hn0
      rw [← hd, ← hm] at hts hds
      have HD := Lib.hid hds
      have HT := Lib.hid hts
      have HR2 := Lib.hid hrow
      have HB2 := Lib.hid hbel
      have hlen : j < (z0 (j + 1) (divS n (p.drop (j + 1))).1).length := by rw [z0_len]; omega
      obtain ⟨c0, hc0⟩ : ∃ c0 : Int, ∀ w1, Below wr.heap.size wr w1 → w1.cell? ⟨w.heap.size, j, none⟩ = some (.int .u64 c0) ∧ w1.frozen? ⟨w.heap.size, j, none⟩ = false := ⟨_, fun w1 hb => ⟨(hrow.below hb).cell j hlen, (hrow.below hb).free j⟩⟩
      have HC := Lib.hid hc0
      clear hds hts hd hm hx hrow hbel hlen hc0 hkE
      go_wp2_with fail
      refine HT.out.mono ?_
      rintro e w1 ⟨rfl, hb1⟩
      have hcz := (HC.out w1 hb1).1
      have hfz := (HC.out w1 hb1).2
      have HB1 := Lib.hid hb1
      clear hb1
      go_wp2_with fail
      all_goals go_roundw
      case rel =>
        have h1 := (HR2.out.below HB1.out).set j d
        rw [z0_set] at h1
        refine ⟨j, m, (j : Int) - 1, rfl, by omega, by omega, by omega, rfl, hmn, ⟨rfl, by rw [HD.out]⟩, by rw [HD.out]; exact h1, (HB2.out.trans (HB1.out.mono HB2.out.size)).setCell (Nat.le_refl _) _⟩
      case measure => simp [intOf] <;> omega
    · obtain rfl : k = 0 := by omega
      have hdr := HI.2
      rw [List.drop_zero] at hdr
      have hrow2 : Row wr w.heap.size w.heap.size p.length (divS n p).1 := by have := hrow; rw [List.drop_zero] at this; exact this
      have hlen := divS_len n p
      have hprops := divS_props n hn0 p
      have hq : pv (divS n p).1 = pv p / n ∧ r = pv p % n := by
        rw [hdr, ← hprops.1]
        constructor
        · rw [Nat.mul_comm, Nat.mul_add_div hn0, Nat.div_eq_of_lt hprops.2, Nat.add_zero]
        · rw [Nat.mul_comm, Nat.mul_add_mod, Nat.mod_eq_of_lt hprops.2]
      have ht := trim_any w.heap.size w.heap.size p.length (divS n p).1 wr hrow2
      rw [hlen] at ht
      have HT := Lib.hid ht
      have HQ := Lib.hid hq
      have HR2 := Lib.hid hrow2
      have HB2 := Lib.hid hbel
      have HP := Lib.hid hprops
      clear ht hq hrow2 hbel hrow hdr hprops HI
      go_wp2_with fail
      refine HT.out.mono ?_
      rintro e w1 ⟨rfl, rfl⟩
      go_wp2_with fail
      go_ret2
      refine ⟨w.heap.size, p.length, trimP (divS n p).1, ret_two (c := .int .u64 (r : Int)) rfl (by rw [HQ.out.2]), ?_, ?_, HB2.out⟩
      · rw [← HQ.out.1]; exact Pcs.of_trim (divS_lt9 n hn0 p H9.out)
      · have := HR2.out.take (trimP (divS n p).1).length (trimP_props _).2.2.2.1
        rw [← (trimP_props (divS n p).1).2.2.2.2] at this; exact this
end Go.Proofs.YtdgbplppabalgaaGreatDoor

namespace Go.Proofs.YtdgbplppabalgaaGreatDoor
open Go.RowKit

theorem grown_refl (w : World) (r : Option Nat) : w.grownBy w r := ⟨rfl, rfl, rfl, Nat.le_refl _, fun _ _ _ => rfl⟩
theorem grown_trans {a b c : World} {r : Option Nat} (h : a.grownBy b r) (k : b.grownBy c r) : a.grownBy c r :=
  ⟨k.os.trans h.os, k.tape.trans h.tape, k.output.trans h.output, Nat.le_trans h.size k.size, fun j hj hr => (k.block j (Nat.lt_of_lt_of_le hj h.size) hr).trans (h.block j hj hr)⟩
theorem grown_set (w : World) (g j : Nat) (u : Value) : w.grownBy (w.setCell ⟨g, j, none⟩ u) (some g) :=
  have h : Below g w (w.setCell ⟨g, j, none⟩ u) := (Below.refl g w).setCell (p := ⟨g, j, none⟩) (Nat.le_refl _) u
  ⟨h.os, h.tape, h.output, h.size, fun k _ hr => Below.heap_setCell _ _ _ _ (by intro e; exact hr (congrArg some e))⟩
theorem grown_below {a b : World} {g B : Nat} (h : a.grownBy b (some g)) (hB : B ≤ g) (hs : B ≤ a.heap.size) : Below B a b :=
  ⟨h.os, h.tape, h.output, h.size, fun k hk => h.block k (by omega) (by intro e; injection e with e; omega)⟩
theorem Row.grown {w w' : World} {B g g' cap : Nat} {l : List Nat} (h : Row w B g' cap l) (k : w.grownBy w' (some g)) (hg : g' ≠ g) : Row w' B g' cap l :=
  World.ownsRow.kept (row := some g) h k (.inr (by simp [Value.ownBlock]; exact hg))
/-- the piece in the middle of a row -/
theorem mid_at (A S R C : List Nat) (x : Nat) : ∃ h : A.length + S.length < (A ++ (S ++ x :: R) ++ C).length, (A ++ (S ++ x :: R) ++ C)[A.length + S.length]'h = x := by
  refine ⟨by simp, ?_⟩
  simp [List.getElem_append_right]
theorem mid_set (A S R C : List Nat) (x v : Nat) : (A ++ (S ++ x :: R) ++ C).set (A.length + S.length) v = A ++ ((S ++ [v]) ++ R) ++ C := by
  rw [List.append_assoc, List.set_append_right _ _ (by omega), Nat.add_sub_cancel_left, List.append_assoc, List.set_append_right _ _ (Nat.le_refl _), Nat.sub_self]
  simp
/-- one piece of a sum with a carry -/
theorem back_step {S p1 b1 : List Nat} {c x y v c' : Nat} (hp : p1.length = S.length) (hb : b1.length = S.length) (h : pv S + 1000000000 ^ S.length * c = pv p1 + pv b1) (hv : v + 1000000000 * c' = c + (x + y)) :
    pv (S ++ [v]) + 1000000000 ^ (S.length + 1) * c' = pv (p1 ++ [x]) + pv (b1 ++ [y]) := by
  rw [pv_snoc, pv_snoc, pv_snoc, hp, hb, Nat.pow_succ, Nat.mul_assoc]
  have h2 : 1000000000 ^ S.length * (v + 1000000000 * c') = 1000000000 ^ S.length * (c + (x + y)) := by rw [hv]
  rw [Nat.mul_add, Nat.mul_add, Nat.mul_add] at h2
  omega

set_option maxHeartbeats 1600000 in
set_option maxRecDepth 100000 in
theorem giveBack_any (B g cap g' cap' : Nat) (A P C bl : List Nat) (w : World) (h : Row w B g cap (A ++ P ++ C)) (hb : Row w B g' cap' bl) (hg : g' ≠ g) (hl : P.length = bl.length) (hP9 : lt9 P) (hb9 : lt9 bl) (m : Nat) (hm : m = bl.length + 1) (hlen : bl.length ≤ 200000) :
    Calls Tryz.prog 227 #[.slice (some ⟨g, A.length, none⟩) m (cap - A.length), .slice (some ⟨g', 0, none⟩) bl.length cap'] w fun e w' => ∃ (S : List Nat) (c : Nat), e = .returned (.tuple #[]) ∧ S.length = bl.length ∧ lt9 S ∧ pv S + 1000000000 ^ bl.length * c = pv P + pv bl ∧ Row w' B g cap (A ++ S ++ C) ∧ w.grownBy w' (some g) := by
  have hlc := hb.len_cap
  unfold maxLen at hlc
  have HH := Lib.hid h
  have HBR := Lib.hid hb
  have HP9 := Lib.hid hP9
  have HB9 := Lib.hid hb9
  have HL := Lib.hid hl
  have HM := Lib.hid hm
  have hmi : (m : Int) = (bl.length : Int) + 1 := by omega
  clear h hb hP9 hb9 hl hm
  go_enter Tryz.func227, Tryz.ntmps227
  go_wp2_with fail
  go_loopw [4, 5, 6, 9] (fun cv _ _ iv wr => ∃ (i c : Nat) (S p1 R b1 b2 : List Nat), iv = .int .i64 i ∧ i ≤ bl.length ∧ cv = .int .u64 c ∧ c ≤ 1 ∧ Hid (S.length = i ∧ p1.length = i ∧ b1.length = i ∧ P = p1 ++ R ∧ bl = b1 ++ b2 ∧ lt9 S ∧ pv S + 1000000000 ^ S.length * c = pv p1 + pv b1) ∧ Row wr B g cap (A ++ (S ++ R) ++ C) ∧ w.grownBy wr (some g)) (fun _ _ _ iv _ => bl.length - (intOf iv).toNat)
  case atStart => exact ⟨0, 0, [], [], P, [], bl, rfl, Nat.zero_le _, rfl, by omega, Lib.hid ⟨rfl, rfl, rfl, rfl, rfl, (by intro x hx; cases hx), rfl⟩, HH.out, grown_refl _ _⟩
  case round =>
    obtain ⟨i, c, S, p1, R, b1, b2, rfl, hi, rfl, hc, HI, hrow, hgr⟩ := hrel
    by_cases hlt : i < bl.length
    · obtain ⟨e1, e2, e3, e4, e5, e6, e7⟩ := HI.out
      obtain ⟨x, R, rfl⟩ : ∃ x R', R = x :: R' := by
        cases R with
        | nil => have := HL.out; rw [e4, List.append_nil] at this; omega
        | cons x R' => exact ⟨x, R', rfl⟩
      obtain ⟨y, b2, rfl⟩ : ∃ y b', b2 = y :: b' := by
        cases b2 with
        | nil => rw [e5, List.append_nil] at hlt; omega
        | cons y b' => exact ⟨y, b', rfl⟩
      have hx9 : x < 1000000000 := HP9.out x (by rw [e4]; simp)
      have hy9 : y < 1000000000 := HB9.out y (by rw [e5]; simp)
      obtain ⟨hk, hat⟩ := mid_at A S R C x
      have hcell := hrow.cell _ hk
      rw [hat] at hcell
      have hfree := hrow.free (A.length + S.length)
      have hbc := (HBR.out.grown hgr hg).cell i hlt
      have hby : bl[i]'hlt = y := by
        simp only [e5]
        rw [List.getElem_append_right (by omega)]
        simp [e3]
      rw [hby] at hbc
      obtain ⟨v, hv⟩ : ∃ v, v = (c + (x + y)) % 1000000000 := ⟨_, rfl⟩
      obtain ⟨c2, hc2⟩ : ∃ c2, c2 = (c + (x + y)) / 1000000000 := ⟨_, rfl⟩
      have hset := hrow.set (A.length + S.length) v
      rw [mid_set] at hset
      have HSET := Lib.hid hset
      have HGR := Lib.hid (grown_trans hgr (grown_set wr g (A.length + S.length) (.int .u64 (v : Int))))
      have hst := back_step (x := x) (y := y) (v := v) (c' := c2) (by omega) (by omega) e7 (by omega)
      have HI2 : Hid ((S ++ [v]).length = i + 1 ∧ (p1 ++ [x]).length = i + 1 ∧ (b1 ++ [y]).length = i + 1 ∧ P = (p1 ++ [x]) ++ R ∧ bl = (b1 ++ [y]) ++ b2 ∧ lt9 (S ++ [v]) ∧ pv (S ++ [v]) + 1000000000 ^ (S ++ [v]).length * c2 = pv (p1 ++ [x]) + pv (b1 ++ [y])) :=
        Lib.hid ⟨by simp; omega, by simp; omega, by simp; omega, by rw [e4]; simp, by rw [e5]; simp, lt9_snoc e6 (by omega), by rw [List.length_append]; exact hst⟩
      have hvi : ((c : Int) + ((x : Int) + (y : Int))) % 1000000000 = (v : Int) := by omega
      have hci : ((c : Int) + ((x : Int) + (y : Int))) / 1000000000 = (c2 : Int) := by omega
      have hc2b : c2 ≤ 1 ∨ c2 = 2 := by omega
      have hc2c : c2 ≤ 1 := by omega
      rw [e1] at hcell hfree HSET HGR
      clear e1 e2 e3 e4 e5 e6 e7 hk hat hv hc2 hset hst hrow hgr hby HI hc2b
      go_wp2_with fail
      refine ⟨⟨i + 1, c2, S ++ [v], p1 ++ [x], R, b1 ++ [y], b2, by push_cast; rfl, by omega, by rw [hci], hc2c, HI2, HSET.out, HGR.out⟩, ?_⟩
      simp [intOf] <;> omega
    · obtain rfl : i = bl.length := by omega
      obtain ⟨e1, e2, e3, e4, e5, e6, e7⟩ := HI.out
      have eR : R = [] := by
        cases R with
        | nil => rfl
        | cons x R' =>
          have := HL.out
          rw [e4, List.length_append, e2, List.length_cons] at this; omega
      have eb : b2 = [] := by
        cases b2 with
        | nil => rfl
        | cons x R' =>
          have := congrArg List.length e5
          rw [List.length_append, e3, List.length_cons] at this; omega
      subst eR eb
      rw [List.append_nil] at e4 e5 hrow
      have HF : Hid (S.length = bl.length ∧ lt9 S ∧ pv S + 1000000000 ^ bl.length * c = pv P + pv bl) := Lib.hid ⟨e1, e6, by rw [← e1, e7, ← e4, ← e5]⟩
      have HROW := Lib.hid hrow
      have HGR := Lib.hid hgr
      clear e1 e2 e3 e4 e5 e6 e7 hrow hgr HI
      go_wp2_with fail
      first | go_end0 | refine bodyPost_end (results_none rfl _ _ _) rfl ?_
      exact ⟨S, c, rfl, HF.out.1, HF.out.2.1, HF.out.2.2, HROW.out, HGR.out⟩
end Go.Proofs.YtdgbplppabalgaaGreatDoor

namespace Go.Proofs.YtdgbplppabalgaaGreatDoor
open Go.RowKit

set_option maxHeartbeats 400000 in
theorem div64_q0 (lo y : Nat) (hy : 0 < y) (hlo : lo < 18446744073709551616) (w : World) :
    Calls Tryz.prog 211 #[.int .u64 0, .int .u64 lo, .int .u64 y] w fun e w' => e = .returned (.tuple #[.int .u64 ((lo / y : Nat) : Int), .int .u64 ((lo % y : Nat) : Int)]) ∧ ∃ m, w' = w.drewN m := by
  have hy0 : ((y : Int) == 0) = false := by rw [beq_eq_false_iff_ne]; omega
  have hwr : IntKind.u64.wrap ((lo : Int) / (y : Int)) = (lo : Int) / (y : Int) := by
    have hq := Nat.div_le_self lo y
    rw [← Int.natCast_ediv, IntKind.wrap_u64]; generalize lo / y = q at hq ⊢; omega
  clear hlo
  go_enter Tryz.func211, Tryz.ntmps211
  go_wp2
  go_quiet (fail)
  go_wp2
  go_ret2
  exact ⟨ret_two (a := .int .u64 ((lo : Int) / (y : Int))) (c := .int .u64 ((lo : Int) % (y : Int))) (by rw [Int.natCast_ediv]) (by rw [Int.natCast_emod]), _, rfl⟩
theorem div64_q (hi lo y : Nat) (hy : hi < y) (hy2 : y < 18446744073709551616) (hlo : lo < 18446744073709551616) (w : World) :
    Calls Tryz.prog 211 #[.int .u64 hi, .int .u64 lo, .int .u64 y] w fun e w' => e = .returned (.tuple #[.int .u64 (((hi * 18446744073709551616 + lo) / y : Nat) : Int), .int .u64 (((hi * 18446744073709551616 + lo) % y : Nat) : Int)]) ∧ ∃ m, w' = w.drewN m := by
  by_cases h : hi = 0
  · subst h
    rw [Nat.zero_mul, Nat.zero_add]
    exact div64_q0 lo y hy hlo w
  · refine (div64_big hi lo y (by omega) hy hy2 hlo w).mono ?_
    rintro e w' ⟨rfl, rfl⟩
    exact ⟨rfl, 0, rfl⟩

/-- a quiet call behind draws that were made before -/
theorem quiet_behind {P : Program} {f : FuncId} {args : Array Value} {v : Value} (h : ∀ x : World, Calls P f args x fun e y => e = .returned v ∧ ∃ m, y = x.drewN m) {w : World} {a n : Nat} :
    Calls P f args (w.drewN (a + n)) fun e y => e = .returned v ∧ ∃ m, y = w.drewN (a + m) :=
  (h (w.drewN (a + n))).mono fun e y hy => ⟨hy.1, by obtain ⟨m, hm⟩ := hy.2; exact ⟨n + m, by rw [hm, World.drewN_drewN, Nat.add_assoc]⟩⟩

set_option maxHeartbeats 1600000 in
set_option maxRecDepth 100000 in
theorem guess_cells (g g' o n cap cap' m n1 n2 t x1 x2 y1 y2 : Nat) (w : World) (hn1 : n = n1 + 1) (hn2 : n1 = n2 + 1) (hn : n ≤ 200000) (hm : m = n + 1) (ht : t < 1000000000) (hx1 : x1 < 1000000000) (hx2 : x2 < 1000000000) (hy0 : 1 ≤ y1) (hy1 : y1 < 1000000000) (hy2 : y2 < 1000000000)
    (c0 : w.cell? ⟨g, o + n, none⟩ = some (.int .u64 (t : Int))) (c1 : w.cell? ⟨g, o + n1, none⟩ = some (.int .u64 (x1 : Int))) (c2 : w.cell? ⟨g, o + n2, none⟩ = some (.int .u64 (x2 : Int)))
    (d1 : w.cell? ⟨g', n1, none⟩ = some (.int .u64 (y1 : Int))) (d2 : w.cell? ⟨g', n2, none⟩ = some (.int .u64 (y2 : Int))) :
    Calls Tryz.prog 226 #[.slice (some ⟨g, o, none⟩) m cap, .slice (some ⟨g', 0, none⟩) n cap'] w fun e w' => e = .returned (.int .u64 ((((t * 1000000000 + x1) * 1000000000 + x2) / (y1 * 1000000000 + y2) : Nat) : Int)) ∧ ∃ k, w' = w.drewN k := by
  obtain ⟨tA, htA⟩ : ∃ tA, tA = t * 1000000000 := ⟨_, rfl⟩
  obtain ⟨p1, hp1⟩ : ∃ p1, p1 = tA + x1 := ⟨_, rfl⟩
  obtain ⟨yA, hyA⟩ : ∃ yA, yA = y1 * 1000000000 := ⟨_, rfl⟩
  obtain ⟨Y, hY⟩ : ∃ Y, Y = yA + y2 := ⟨_, rfl⟩
  rw [← htA, ← hp1, ← hyA, ← hY]
  have hm0 := fun w => Tryz.bits_Mul64 p1 1000000000 (by omega) (by omega) w
  obtain ⟨V, hV⟩ : ∃ V : Nat, V = p1 * 1000000000 := ⟨_, rfl⟩
  rw [← hV] at hm0 ⊢
  obtain ⟨hi, hhi⟩ : ∃ hi : Nat, hi = V / 18446744073709551616 := ⟨_, rfl⟩
  obtain ⟨lo, hlo⟩ : ∃ lo : Nat, lo = V % 18446744073709551616 := ⟨_, rfl⟩
  rw [← hhi, ← hlo] at hm0
  obtain ⟨c, hc⟩ : ∃ c : Nat, c = (lo + x2) / 18446744073709551616 := ⟨_, rfl⟩
  obtain ⟨l2, hl2⟩ : ∃ l2 : Nat, l2 = (lo + x2) % 18446744073709551616 := ⟨_, rfl⟩
  obtain ⟨h2, hh2⟩ : ∃ h2 : Nat, h2 = hi + c := ⟨_, rfl⟩
  have ha' : ∀ wx, (callFunc 174 #[.int .u64 (lo : Int), .int .u64 (x2 : Int), .int .u64 0]).run Tryz.prog wx = .ok (.value (.tuple #[.int .u64 (l2 : Int), .int .u64 (c : Int)])) wx := fun wx => by
    have h := Tryz.bits_Add64 lo x2 0 (by omega) wx
    rw [Nat.add_zero, ← hc, ← hl2] at h
    exact h
  have hlt : h2 < Y := by omega
  have hd := fun wx => div64_q h2 l2 Y hlt (by omega) (by omega) wx
  rw [show h2 * 18446744073709551616 + l2 = V + x2 by omega] at hd
  obtain ⟨D, hD⟩ : ∃ D, D = (V + x2) / Y := ⟨_, rfl⟩
  rw [← hD] at hd ⊢
  have HM := Lib.hid hm0
  have HD := Lib.hid hd
  have hmi : (m : Int) = (n : Int) + 1 := by omega
  have hn1b : (n1 : Int) < (n : Int) := by omega
  have hn2b : (n2 : Int) < (n : Int) := by omega
  have wA : IntKind.u64.wrap ((t : Int) * 1000000000) = (tA : Int) := by rw [IntKind.wrap_u64]; omega
  have wB : IntKind.u64.wrap ((tA : Int) + (x1 : Int)) = (p1 : Int) := by rw [IntKind.wrap_u64]; omega
  have wC : IntKind.u64.wrap ((y1 : Int) * 1000000000) = (yA : Int) := by rw [IntKind.wrap_u64]; omega
  have wD : IntKind.u64.wrap ((yA : Int) + (y2 : Int)) = (Y : Int) := by rw [IntKind.wrap_u64]; omega
  have wE : IntKind.u64.wrap ((hi : Int) + (c : Int)) = (h2 : Int) := by rw [IntKind.wrap_u64]; omega
  have wF : IntKind.i64.wrap ((n : Int) - 1) = (n1 : Int) := by rw [IntKind.wrap_i64]; omega
  have wG : IntKind.i64.wrap ((n : Int) - 2) = (n2 : Int) := by rw [IntKind.wrap_i64]; omega
  have wH : (n : Int) - 2 = (n2 : Int) := by omega
  clear hm0 hd hV hhi hlo hc hl2 hh2 htA hp1 hyA hY hD hlt hn1 hn2 hm
  go_enter Tryz.func226, Tryz.ntmps226
  go_wp2_with fail
  go_quiet ((go_at_call 127; exact Calls.quiet_of_same (HM.out _)))
  go_wp2_with fail
  go_quiet ((go_at_call 211; exact quiet_behind HD.out))
  go_wp2_with fail
  go_ret
  exact ⟨rfl, _, World.drewN_drewN _ _ _⟩
end Go.Proofs.YtdgbplppabalgaaGreatDoor

namespace Go.Proofs.YtdgbplppabalgaaGreatDoor
open Go.RowKit

theorem away_step {S p1 b1 : List Nat} {d c x y v c2 : Nat} (hp : p1.length = S.length) (hb : b1.length = S.length) (h : pv S + d * pv b1 = pv p1 + 1000000000 ^ S.length * c) (hv : v + (c + d * y) = x + 1000000000 * c2) :
    pv (S ++ [v]) + d * pv (b1 ++ [y]) = pv (p1 ++ [x]) + 1000000000 ^ (S.length + 1) * c2 := by
  rw [pv_snoc, pv_snoc, pv_snoc, hp, hb, Nat.pow_succ, Nat.mul_assoc, Nat.mul_add d, Nat.mul_left_comm d]
  have h2 : 1000000000 ^ S.length * (v + (c + d * y)) = 1000000000 ^ S.length * (x + 1000000000 * c2) := by rw [hv]
  rw [Nat.mul_add, Nat.mul_add, Nat.mul_add] at h2
  omega
/-- the guess of a digit is right, or one too much -/
theorem guess_near {T Y k lo lb P bv q d : Nat} (hP : P = T * k + lo) (hlo : lo < k) (hb : bv = Y * k + lb) (hlb : lb < k) (hY : 1000000000 ≤ Y) (hq : q = P / bv) (hq9 : q < 1000000000) (hd : d = T / Y) : d = q ∨ d = q + 1 := by
  have hk : 0 < k := by omega
  have hbv : 0 < bv := by
    have : 1 * k ≤ Y * k := Nat.mul_le_mul_right k (by omega)
    omega
  have e := Nat.div_add_mod P bv
  have l := Nat.mod_lt P hbv
  rw [← hq] at e
  have e2 := Nat.div_add_mod T Y
  have l2 := Nat.mod_lt T (show 0 < Y by omega)
  rw [← hd] at e2
  have h1 : q ≤ d := by
    rw [hd, Nat.le_div_iff_mul_le (by omega)]
    apply Nat.le_of_lt_succ
    apply Nat.lt_of_mul_lt_mul_right (a := k)
    have a1 : q * Y * k ≤ q * bv := by rw [hb, Nat.mul_add, ← Nat.mul_assoc]; omega
    have a2 : bv * q = q * bv := Nat.mul_comm _ _
    have a3 : (T + 1) * k = T * k + k := by rw [Nat.add_mul, Nat.one_mul]
    rw [Nat.succ_eq_add_one, a3]
    omega
  have h2 : d ≤ q + 1 := by
    apply Nat.le_of_lt_succ
    apply Nat.lt_of_not_le; intro hc
    have b1 : (q + 2) * Y ≤ T := by
      have : (q + 2) * Y ≤ d * Y := Nat.mul_le_mul_right Y hc
      have : Y * d = d * Y := Nat.mul_comm _ _
      omega
    have b2 : (q + 2) * Y * k ≤ T * k := Nat.mul_le_mul_right k b1
    have b3 : bv * (q + 1) = bv * q + bv := by rw [Nat.mul_add, Nat.mul_one]
    have b4 : bv * (q + 1) ≤ (Y + 1) * k * (q + 1) := Nat.mul_le_mul_right _ (by rw [hb, Nat.add_mul, Nat.one_mul]; omega)
    have b5 : (Y + 1) * k * (q + 1) = (q + 1) * (Y + 1) * k := by rw [Nat.mul_comm ((Y + 1) * k), Nat.mul_assoc]
    have b6 : (q + 2) * Y * k < (q + 1) * (Y + 1) * k := by omega
    have b7 := Nat.lt_of_mul_lt_mul_right b6
    have b8 : (q + 2) * Y = q * Y + 2 * Y := by rw [Nat.add_mul]
    have b9 : (q + 1) * (Y + 1) = q * Y + q + (Y + 1) := by rw [Nat.add_mul, Nat.mul_add]; omega
    omega
  omega
/-- what stands behind the loop -/
theorem away_end {P t bv q d s c M : Nat} (hbM : bv ≤ M) (hb0 : 0 < bv) (hq : q = (P + M * t) / bv) (hd : d = q ∨ d = q + 1) (hs : s < M) (h : s + d * bv = P + M * c) :
    (c ≤ t → d = q ∧ s = (P + M * t) % bv) ∧ (t < c → d = q + 1 ∧ ∀ s2 c3, s2 < M → s2 + M * c3 = s + bv → s2 = (P + M * t) % bv) := by
  have e := Nat.div_add_mod (P + M * t) bv
  have l := Nat.mod_lt (P + M * t) hb0
  rw [← hq] at e
  generalize (P + M * t) % bv = r at *
  have eq1 : bv * q = q * bv := Nat.mul_comm _ _
  have eq2 : (q + 1) * bv = q * bv + bv := by rw [Nat.add_mul, Nat.one_mul]
  constructor
  · intro hct
    obtain ⟨k, rfl⟩ : ∃ k, t = c + k := ⟨t - c, by omega⟩
    rw [Nat.mul_add] at e
    rcases hd with rfl | rfl
    · have h3 : r = s + M * k := by omega
      have hk0 : k = 0 := by
        apply Nat.eq_zero_of_not_pos; intro hk
        have : M * 1 ≤ M * k := Nat.mul_le_mul_left M hk
        omega
      rw [hk0] at h3
      exact ⟨rfl, by omega⟩
    · exfalso; rw [eq2] at h; omega
  · intro hct
    obtain ⟨k, rfl⟩ : ∃ k, c = t + (k + 1) := ⟨c - t - 1, by omega⟩
    rw [Nat.mul_add, Nat.mul_add] at h
    rcases hd with rfl | rfl
    · exfalso; omega
    · refine ⟨rfl, ?_⟩
      intro s2 c3 h4 h5
      rw [eq2] at h
      have h6 : r + M * k + M = s + bv := by omega
      have h7 : s2 + M * c3 = r + M * (k + 1) := by rw [Nat.mul_add]; omega
      have h8 := congrArg (· % M) h7
      simp only [Nat.add_mul_mod_self_left] at h8
      rw [Nat.mod_eq_of_lt h4, Nat.mod_eq_of_lt (by omega)] at h8
      exact h8
theorem two_last {l : List Nat} (h : 2 ≤ l.length) : ∃ l0 x y, l = l0 ++ [x, y] := by
  rcases snoc_cases l with rfl | ⟨l1, y, rfl⟩
  · simp at h
  · rcases snoc_cases l1 with rfl | ⟨l0, x, rfl⟩
    · simp at h
    · exact ⟨l0, x, y, by simp⟩
theorem end_at (A S C : List Nat) (x : Nat) : ∃ h : A.length + S.length < (A ++ S ++ x :: C).length, (A ++ S ++ x :: C)[A.length + S.length]'h = x := by
  refine ⟨by simp, ?_⟩
  rw [List.getElem_append_right (by simp)]
  simp
theorem end_set (A S C : List Nat) (x v : Nat) : (A ++ S ++ x :: C).set (A.length + S.length) v = A ++ S ++ v :: C := by
  rw [List.set_append_right _ _ (by simp)]
  simp
theorem Row.drawn {w : World} {B g cap : Nat} {l : List Nat} (h : Row w B g cap l) (n : Nat) : Row (w.drewN n) B g cap l := h
theorem Row.cellAt {w : World} {B g cap : Nat} {l : List Nat} (h : Row w B g cap l) {i x : Nat} (e : ∃ k : i < l.length, l[i]'k = x) : w.cell? ⟨g, i, none⟩ = some (.int .u64 (x : Int)) := by
  obtain ⟨k, rfl⟩ := e; exact h.cell i k
theorem pow_two_more (k : Nat) : 1000000000 ^ (k + 2) = 1000000000 ^ k * 1000000000000000000 := by rw [Nat.pow_add]
theorem pv_two (l : List Nat) (x y : Nat) : pv (l ++ [x, y]) = (y * 1000000000 + x) * 1000000000 ^ l.length + pv l := by
  rw [pv_append, Nat.mul_comm _ (1000000000 ^ l.length)]
  have : pv [x, y] = y * 1000000000 + x := by simp [pv]; omega
  rw [this]; omega

set_option maxHeartbeats 3200000 in
set_option maxRecDepth 100000 in
theorem takeAway_any (B g cap g' cap' : Nat) (A P C bl : List Nat) (t : Nat) (w : World) (h : Row w B g cap (A ++ P ++ t :: C)) (hb : Row w B g' cap' bl) (hg : g' ≠ g) (hl : P.length = bl.length) (h2 : 2 ≤ bl.length) (hP9 : lt9 P) (ht9 : t < 1000000000) (hb9 : lt9 bl) (htop : Go.Proofs.YtdgbplppabalgaaGreatDoor.top bl) (hlt : pv P + 1000000000 ^ bl.length * t < pv bl * 1000000000) (m : Nat) (hm : m = bl.length + 1) (hlen : bl.length ≤ 200000) :
    Calls Tryz.prog 210 #[.slice (some ⟨g, A.length, none⟩) m (cap - A.length), .slice (some ⟨g', 0, none⟩) bl.length cap'] w fun e w' => ∃ S : List Nat, e = .returned (.int .u64 (((pv P + 1000000000 ^ bl.length * t) / pv bl : Nat) : Int)) ∧ S.length = bl.length ∧ lt9 S ∧ pv S = (pv P + 1000000000 ^ bl.length * t) % pv bl ∧ Row w' B g cap (A ++ S ++ 0 :: C) ∧ w.grownBy w' (some g) := by
  have hlc := hb.len_cap
  unfold maxLen at hlc
  have HH := Lib.hid h
  have HBR := Lib.hid hb
  have HP9 := Lib.hid hP9
  have HB9 := Lib.hid hb9
  have HL := Lib.hid hl
  have HMB := Lib.hid hm
  have hmi : (m : Int) = (bl.length : Int) + 1 := by omega
  have hbM := pv_lt bl hb9
  obtain ⟨q, hq⟩ : ∃ q, q = (pv P + 1000000000 ^ bl.length * t) / pv bl := ⟨_, rfl⟩
  have hq9 : q < 1000000000 := by rw [hq]; exact Nat.div_lt_of_lt_mul hlt
  -- the highest pieces
  obtain ⟨P0, x2, x1, eP⟩ := two_last (show 2 ≤ P.length by omega)
  obtain ⟨b0, y2, y1, eb⟩ := two_last h2
  have hlP : P.length = P0.length + 2 := by rw [eP]; simp
  have hlb : bl.length = b0.length + 2 := by rw [eb]; simp
  have hx1 : x1 < 1000000000 := hP9 x1 (by rw [eP]; simp)
  have hx2 : x2 < 1000000000 := hP9 x2 (by rw [eP]; simp)
  have hy1 : y1 < 1000000000 := hb9 y1 (by rw [eb]; simp)
  have hy2 : y2 < 1000000000 := hb9 y2 (by rw [eb]; simp)
  have hy0 : 1 ≤ y1 := by
    apply Nat.pos_of_ne_zero; intro e
    rw [eb, e] at htop
    simp [Go.Proofs.YtdgbplppabalgaaGreatDoor.top] at htop
  have c0 := h.cellAt (end_at A P C t)
  rw [hl] at c0
  have hP' := h
  rw [eP] at hP'
  have c2 := hP'.cellAt (mid_at A P0 [x1] (t :: C) x2)
  rw [show P0.length = b0.length by omega] at c2
  have c1m := mid_at A (P0 ++ [x2]) [] (t :: C) x1
  rw [show A ++ ((P0 ++ [x2]) ++ x1 :: []) ++ t :: C = A ++ (P0 ++ [x2, x1]) ++ t :: C by simp, show (P0 ++ [x2]).length = b0.length + 1 by simp; omega] at c1m
  have c1 := hP'.cellAt c1m
  have d1 : w.cell? ⟨g', b0.length + 1, none⟩ = some (.int .u64 (y1 : Int)) := hb.cellAt ⟨by omega, by simp [eb]⟩
  have d2 : w.cell? ⟨g', b0.length, none⟩ = some (.int .u64 (y2 : Int)) := hb.cellAt ⟨by omega, by simp [eb]⟩
  have hgu := guess_cells g g' A.length bl.length (cap - A.length) cap' m (b0.length + 1) b0.length t x1 x2 y1 y2 w (by omega) rfl hlen hm ht9 hx1 hx2 hy0 hy1 hy2 c0 c1 c2 d1 d2
  obtain ⟨d, hd⟩ : ∃ d, d = ((t * 1000000000 + x1) * 1000000000 + x2) / (y1 * 1000000000 + y2) := ⟨_, rfl⟩
  rw [← hd] at hgu
  have hP0 : pv P0 < 1000000000 ^ P0.length := pv_lt P0 (fun x hx => hP9 x (by rw [eP]; simp [hx]))
  have hb0 : pv b0 < 1000000000 ^ b0.length := pv_lt b0 (fun x hx => hb9 x (by rw [eb]; simp [hx]))
  have hne := guess_near (T := (t * 1000000000 + x1) * 1000000000 + x2) (Y := y1 * 1000000000 + y2) (k := 1000000000 ^ b0.length) (lo := pv P0) (lb := pv b0) (P := pv P + 1000000000 ^ bl.length * t) (bv := pv bl) (q := q) (d := d) (by
    rw [eP, pv_two, hlb, pow_two_more, show P0.length = b0.length by omega]
    generalize 1000000000 ^ b0.length = k
    have a0 : (t * 1000000000 + x1) * 1000000000 + x2 = t * 1000000000000000000 + (x1 * 1000000000 + x2) := by omega
    have a1 : ((t * 1000000000 + x1) * 1000000000 + x2) * k = t * 1000000000000000000 * k + (x1 * 1000000000 + x2) * k := by rw [a0, Nat.add_mul]
    have a2 : k * 1000000000000000000 * t = t * 1000000000000000000 * k := by rw [Nat.mul_comm k, Nat.mul_right_comm, Nat.mul_comm 1000000000000000000 t]
    omega) (by rw [show b0.length = P0.length by omega]; exact hP0) (by rw [eb, pv_two]) hb0 (by omega) hq hq9 hd
  have hbv0 : 0 < pv bl := by
    rw [eb, pv_two]
    have : 1 * 1000000000 ^ b0.length ≤ (y1 * 1000000000 + y2) * 1000000000 ^ b0.length := Nat.mul_le_mul_right _ (by omega)
    have : 0 < 1000000000 ^ b0.length := Nat.pow_pos (by decide)
    omega
  have hd9 : d ≤ 1000000000 := by omega
  have HNE := Lib.hid hne
  have HBM := Lib.hid (Nat.le_of_lt hbM)
  have HBV := Lib.hid hbv0
  have HQ := Lib.hid hq
  have HGU := Lib.hid hgu
  rw [← hq]
  clear h hb hP9 hb9 hl hm hbM hq eP eb hlP hlb hx1 hx2 hy1 hy2 hy0 c0 c1 c2 d1 d2 hP' c1m hgu hd hP0 hb0 hne hbv0 htop hlt
  go_enter Tryz.func210, Tryz.ntmps210
  go_wp2_with fail
  refine HGU.out.mono ?_
  rintro e w1 ⟨rfl, dk, rfl⟩
  have HG0 : Hid (w.grownBy (w.drewN dk) (some g)) := Lib.hid ⟨rfl, rfl, rfl, Nat.le_refl _, fun _ _ _ => rfl⟩
  have HH1 := Lib.hid (HH.out.drawn dk)
  obtain ⟨w1, hw1⟩ : ∃ w1, w1 = w.drewN dk := ⟨_, rfl⟩
  rw [← hw1] at HG0 HH1 ⊢
  clear hw1
  go_wp2_with fail
  go_loopw [6, 7, 8, 9, 15] (fun cv _ _ _ iv wr => ∃ (i c : Nat) (S p1 R b1 b2 : List Nat), iv = .int .i64 i ∧ i ≤ bl.length ∧ cv = .int .u64 c ∧ c ≤ 1000000001 ∧ Hid (S.length = i ∧ p1.length = i ∧ b1.length = i ∧ P = p1 ++ R ∧ bl = b1 ++ b2 ∧ lt9 S ∧ pv S + d * pv b1 = pv p1 + 1000000000 ^ S.length * c) ∧ Row wr B g cap (A ++ (S ++ R) ++ t :: C) ∧ w.grownBy wr (some g)) (fun _ _ _ _ iv _ => bl.length - (intOf iv).toNat)
  case atStart => exact ⟨0, 0, [], [], P, [], bl, rfl, Nat.zero_le _, rfl, by omega, Lib.hid ⟨rfl, rfl, rfl, rfl, rfl, (by intro x hx; cases hx), rfl⟩, HH1.out, HG0.out⟩
  case round =>
    obtain ⟨i, c, S, p1, R, b1, b2, rfl, hi, rfl, hc, HI, hrow, hgr⟩ := hrel
    by_cases hlt : i < bl.length
    · obtain ⟨e1, e2, e3, e4, e5, e6, e7⟩ := HI.out
      obtain ⟨x, R, rfl⟩ : ∃ x R', R = x :: R' := by
        cases R with
        | nil => have := HL.out; rw [e4, List.append_nil] at this; omega
        | cons x R' => exact ⟨x, R', rfl⟩
      obtain ⟨y, b2, rfl⟩ : ∃ y b', b2 = y :: b' := by
        cases b2 with
        | nil => rw [e5, List.append_nil] at hlt; omega
        | cons y b' => exact ⟨y, b', rfl⟩
      have hx9 : x < 1000000000 := HP9.out x (by rw [e4]; simp)
      have hy9 : y < 1000000000 := HB9.out y (by rw [e5]; simp)
      have hcell := hrow.cellAt (mid_at A S R (t :: C) x)
      have hfree := hrow.free (A.length + S.length)
      have hbc : wr.cell? ⟨g', i, none⟩ = some (.int .u64 (y : Int)) := (HBR.out.grown hgr hg).cellAt ⟨hlt, by
        simp only [e5]
        rw [List.getElem_append_right (by omega)]
        simp [e3]⟩
      obtain ⟨z, hz⟩ : ∃ z, z = d * y := ⟨_, rfl⟩
      have hzi : (d : Int) * (y : Int) = (z : Int) := by rw [hz]; simp
      have hzb : z ≤ 999999999000000000 := by rw [hz]; exact Nat.le_trans (Nat.mul_le_mul hd9 (show y ≤ 999999999 by omega)) (by decide)
      obtain ⟨a, ha⟩ : ∃ a, a = (c + z) % 1000000000 := ⟨_, rfl⟩
      obtain ⟨c1, hc1⟩ : ∃ c1, c1 = (c + z) / 1000000000 := ⟨_, rfl⟩
      have hai : ((c : Int) + (z : Int)) % 1000000000 = (a : Int) := by omega
      have hci : ((c : Int) + (z : Int)) / 1000000000 = (c1 : Int) := by omega
      have ha9 : a < 1000000000 := by omega
      have hc1b : c1 ≤ 1000000000 := by omega
      rw [e1] at hcell hfree
      have fin : ∀ v c2 : Nat, v < 1000000000 → v + (c + d * y) = x + 1000000000 * c2 →
          Hid ((S ++ [v]).length = i + 1 ∧ (p1 ++ [x]).length = i + 1 ∧ (b1 ++ [y]).length = i + 1 ∧ P = (p1 ++ [x]) ++ R ∧ bl = (b1 ++ [y]) ++ b2 ∧ lt9 (S ++ [v]) ∧ pv (S ++ [v]) + d * pv (b1 ++ [y]) = pv (p1 ++ [x]) + 1000000000 ^ (S ++ [v]).length * c2) := fun v c2 hv9 hv =>
        Lib.hid ⟨by simp; omega, by simp; omega, by simp; omega, by rw [e4]; simp, by rw [e5]; simp, lt9_snoc e6 hv9, by rw [List.length_append]; exact away_step (by omega) (by omega) e7 hv⟩
      have FIN := Lib.hid fin
      have fset : ∀ v : Nat, Row (wr.setCell ⟨g, A.length + i, none⟩ (.int .u64 (v : Int))) B g cap (A ++ ((S ++ [v]) ++ R) ++ t :: C) := fun v => by
        have := hrow.set (A.length + S.length) v
        rw [mid_set, e1] at this; exact this
      have FSET := Lib.hid fset
      have fset2 : ∀ (u v : Nat) (U : Int), U = (u : Int) → Row ((wr.setCell ⟨g, A.length + i, none⟩ (.int .u64 U)).setCell ⟨g, A.length + i, none⟩ (.int .u64 (v : Int))) B g cap (A ++ ((S ++ [v]) ++ R) ++ t :: C) := fun u v U hU => by
        have := (hrow.set (A.length + S.length) u).set (A.length + S.length) v
        rw [List.set_set, mid_set, e1] at this; rw [hU]; exact this
      have FSET2 := Lib.hid fset2
      have GR := Lib.hid hgr
      by_cases hxa : x < a
      · obtain ⟨v, hv⟩ : ∃ v, v = x + 1000000000 - a := ⟨_, rfl⟩
        have hvi : (x : Int) + 1000000000 - (a : Int) = (v : Int) := by omega
        have HI2 := fin v (c1 + 1) (by omega) (by omega)
        clear e1 e2 e3 e4 e5 e6 e7 hz ha hc1 hv fin fset fset2 hrow hgr HI
        go_wp2_with fail
        refine ⟨⟨i + 1, c1 + 1, S ++ [v], p1 ++ [x], R, b1 ++ [y], b2, by push_cast; rfl, by omega, by push_cast; rfl, by omega, HI2, FSET2.out (x + 1000000000) v _ (by omega), grown_trans GR.out (grown_trans (grown_set _ _ _ _) (grown_set _ _ _ _))⟩, ?_⟩
        simp [intOf] <;> omega
      · obtain ⟨v, hv⟩ : ∃ v, v = x - a := ⟨_, rfl⟩
        have hvi : (x : Int) - (a : Int) = (v : Int) := by omega
        have HI2 := fin v c1 (by omega) (by omega)
        clear e1 e2 e3 e4 e5 e6 e7 hz ha hc1 hv fin fset fset2 hrow hgr HI
        go_wp2_with fail
        refine ⟨⟨i + 1, c1, S ++ [v], p1 ++ [x], R, b1 ++ [y], b2, by push_cast; rfl, by omega, by rw [hci], by omega, HI2, FSET.out v, grown_trans GR.out (grown_set _ _ _ _)⟩, ?_⟩
        simp [intOf] <;> omega
    · obtain rfl : i = bl.length := by omega
      obtain ⟨e1, e2, e3, e4, e5, e6, e7⟩ := HI.out
      have eR : R = [] := by
        cases R with
        | nil => rfl
        | cons x R' =>
          have := HL.out
          rw [e4, List.length_append, e2, List.length_cons] at this; omega
      have eb : b2 = [] := by
        cases b2 with
        | nil => rfl
        | cons x R' =>
          have := congrArg List.length e5
          rw [List.length_append, e3, List.length_cons] at this; omega
      subst eR eb
      rw [List.append_nil] at e4 e5 hrow
      rw [← e4, ← e5, e1] at e7
      have hsM := pv_lt S e6
      rw [e1] at hsM
      have hend := away_end HBM.out HBV.out HQ.out HNE.out hsM e7
      have c0 := hrow.cellAt (end_at A S C t)
      have f0 := hrow.free (A.length + bl.length)
      rw [e1] at c0
      have HROW := Lib.hid hrow
      have HGR := Lib.hid hgr
      have HS1 := Lib.hid e1
      have HS9 := Lib.hid e6
      by_cases hct : t < c
      · obtain ⟨hdq, hun⟩ := hend.2 hct
        have hdi : (d : Int) - 1 = (q : Int) := by omega
        have HUN := Lib.hid hun
        have HGB := Lib.hid (giveBack_any B g cap g' cap' A S (t :: C) bl wr hrow (HBR.out.grown hgr hg) hg e1 e6 HB9.out m HMB.out hlen)
        clear e1 e2 e3 e4 e5 e6 e7 hsM hend hrow hgr hdq hun HI
        go_wp2_with fail
        refine HGB.out.mono ?_
        rintro e w2 ⟨S2, c3, rfl, k1, k2, k3, k4, k5⟩
        have c02 := k4.cellAt (end_at A S2 C t)
        have f02 := k4.free (A.length + bl.length)
        rw [k1] at c02
        have hset := k4.set (A.length + S2.length) 0
        rw [end_set, k1] at hset
        have HSET := Lib.hid hset
        have HG2 := Lib.hid (grown_trans HGR.out (grown_trans k5 (grown_set w2 g (A.length + bl.length) (.int .u64 0))))
        have hs2M := pv_lt S2 k2
        rw [k1] at hs2M
        have HR := Lib.hid (HUN.out (pv S2) c3 hs2M k3)
        have HK1 := Lib.hid k1
        have HK2 := Lib.hid k2
        clear k1 k2 k3 k4 k5 hset hs2M c0 f0
        go_wp2_with fail
        go_ret
        exact ⟨S2, rfl, HK1.out, HK2.out, HR.out, HSET.out, HG2.out⟩
      · obtain ⟨hdq, hr⟩ := hend.1 (by omega)
        have hset := hrow.set (A.length + S.length) 0
        rw [end_set, e1] at hset
        have HSET := Lib.hid hset
        have HG2 := Lib.hid (grown_trans hgr (grown_set wr g (A.length + bl.length) (.int .u64 0)))
        have HR := Lib.hid hr
        have HDQ := Lib.hid hdq
        clear e1 e2 e3 e4 e5 e6 e7 hsM hend hrow hgr hdq hr hset HI
        go_wp2_with fail
        go_ret
        exact ⟨S, by rw [HDQ.out]; rfl, HS1.out, HS9.out, HR.out, HSET.out, HG2.out⟩
end Go.Proofs.YtdgbplppabalgaaGreatDoor
