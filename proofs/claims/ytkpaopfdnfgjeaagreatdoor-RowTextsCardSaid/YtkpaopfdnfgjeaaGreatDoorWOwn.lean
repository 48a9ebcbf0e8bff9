/-
  Rows of integers that a call makes.
-/
import Derived.Test.YtkpaopfdnfgjeaaGreatDoorWDot
import Derived.Laws.AppendOwn
namespace Go.Proofs.YtkpaopfdnfgjeaaGreatDoor
open Go.RowKit

/-- integers as cells -/
def ci (l : List Int) : List Value := l.map fun n : Int => Value.int .i64 n
theorem ci_len (l : List Int) : (ci l).length = l.length := by simp [ci]
theorem ci_at (l : List Int) (i : Nat) (h : i < l.length) : (ci l)[i]? = some (.int .i64 (l[i]'h)) := by simp [ci, h]
theorem ci_append (l m : List Int) : ci (l ++ m) = ci l ++ ci m := by simp [ci]
theorem ci_set (l : List Int) (k : Nat) (v : Int) : (ci l).set k (.int .i64 v) = ci (l.set k v) := by simp [ci, List.map_set]
theorem infoI : (Tryz.prog.info? 3).map (fun i => (i.zero, i.size, i.bytes)) = some (some (.int .i64 0), 1, 8) := by kernel_rfl

/-- block g, from B on, is a row of the call's own that holds l -/
def RowI (w : World) (B g cap : Nat) (l : List Int) : Prop := w.ownsRow B 3 1 (.slice (some ⟨g, 0, none⟩) l.length cap) l.length (ci l)
theorem RowI.cell {w : World} {B g cap : Nat} {l : List Int} (h : RowI w B g cap l) (i : Nat) (hi : i < l.length) : w.cell? ⟨g, i, none⟩ = some (.int .i64 (l[i]'hi)) := by
  rw [World.ownsRow.cellAt h i (by omega), ci_at l i hi]
theorem RowI.free {w : World} {B g cap : Nat} {l : List Int} (h : RowI w B g cap l) (i : Nat) : w.frozen? ⟨g, i, none⟩ = false := World.ownsRow.frozenAt h i
theorem RowI.below {w w' : World} {B g cap : Nat} {l : List Int} (h : RowI w B g cap l) (hb : Below w.heap.size w w') : RowI w' B g cap l :=
  World.ownsRow.kept (row := none) h ⟨hb.os, hb.tape, hb.output, hb.size, fun j hj _ => hb.block j hj⟩ (.inr (by simp [Value.ownBlock]))
theorem RowI.lt {w : World} {B g cap : Nat} {l : List Int} (h : RowI w B g cap l) : B ≤ g ∧ g < w.heap.size := World.ownsRow.lt h g rfl
theorem RowI.mono {w : World} {B B' g cap : Nat} {l : List Int} (h : RowI w B g cap l) (hB : B' ≤ B) : RowI w B' g cap l := by
  obtain ⟨h1, h2⟩ := h
  refine ⟨h1, ?_⟩
  rcases h2 with h2 | ⟨g', cap', cur, e, hg, r⟩
  · exact .inl h2
  · exact .inr ⟨g', cap', cur, e, by omega, r⟩
theorem RowI.len_cap {w : World} {B g cap : Nat} {l : List Int} (h : RowI w B g cap l) : l.length ≤ cap ∧ cap ≤ maxLen := by
  rcases h.2 with ⟨h0, _⟩ | ⟨g', cap', cur, e, hg, hh, h1, h2, _⟩
  · cases h0
  · cases e; exact ⟨h1, h2⟩
theorem RowI.set {w : World} {B g cap : Nat} {l : List Int} (h : RowI w B g cap l) (k : Nat) (v : Int) : RowI (w.setCell ⟨g, k, none⟩ (.int .i64 v)) B g cap (l.set k v) := by
  have h1 := (World.ownsRow.stored h k (.int .i64 v)).1
  rw [ci_set] at h1
  unfold RowI; rw [List.length_set]; exact h1
theorem RowI.alloc {w : World} {B g cap : Nat} {l : List Int} (h : RowI w B g cap l) (o : Obj) : RowI (w.alloc o) B g cap l := World.ownsRow.alloc h o
theorem RowI.of {w : World} {B g cap n : Nat} {l : List Int} {xs : List Value} (h : w.ownsRow B 3 1 (.slice (some ⟨g, 0, none⟩) n cap) n xs) (hl : l.length = n) (hx : xs = ci l) : RowI w B g cap l := by
  subst hl hx; exact h
theorem RowI.made {w : World} {B g n : Nat} (h : w.ownsRow B 3 1 (.slice (some ⟨g, 0, none⟩) n n) n (madeCells (Value.int .i64 0).cells (n * 1)).toList) : RowI w B g n (List.replicate n 0) := by
  refine RowI.of h (by simp) ?_
  rw [show (Value.int .i64 0).cells = #[.int .i64 0] from rfl, toList_madeCells_one, Nat.mul_one]; simp [ci]
theorem RowI.rd {w : World} {B g cap : Nat} {l : List Int} (h : RowI w B g cap l) (hb : ∀ z ∈ l, -9223372036854775808 ≤ z ∧ z ≤ 9223372036854775807) : Rd w (some ⟨g, 0, none⟩) l.length cap l :=
  ⟨rfl, h.len_cap.1, h.len_cap.2, hb, .inr ⟨g, 0, rfl, h.lt.2, fun i hi => by rw [Nat.zero_add]; exact h.cell i hi⟩⟩
theorem Rd.nil (w : World) : Rd w none 0 0 [] := ⟨rfl, Nat.le_refl _, by unfold maxLen; omega, by simp, .inl rfl⟩
theorem okB_bd {l : List Int} (h : okB l = true) : ∀ z ∈ l, -9223372036854775808 ≤ z ∧ z ≤ 9223372036854775807 := fun z hz => by have := okB_ent h hz; omega

/-- a row that is filled from the left -/
def part (f : Int → Int) (zs : List Int) (n k : Nat) : List Int := (zs.take k).map f ++ List.replicate (n - k) 0
theorem part_len (f : Int → Int) (zs : List Int) {n k : Nat} (hn : zs.length = n) (hk : k ≤ n) : (part f zs n k).length = n := by simp [part]; omega
theorem part_set (f : Int → Int) (zs : List Int) {n k : Nat} (hn : zs.length = n) (hk : k < zs.length) : (part f zs n k).set k (f zs[k]) = part f zs n (k + 1) := by
  unfold part
  have e1 : ((zs.take k).map f).length = k := by simp; omega
  rw [List.set_append_right _ _ (by omega), e1, Nat.sub_self]
  obtain ⟨m, hm⟩ : ∃ m, n - k = m + 1 := ⟨n - k - 1, by omega⟩
  rw [hm, List.replicate_succ, List.set_cons_zero, List.take_succ_eq_append_getElem hk, List.map_append, show n - (k + 1) = m by omega]
  simp
theorem part_all (f : Int → Int) (zs : List Int) {n : Nat} (hn : zs.length = n) : part f zs n n = zs.map f := by
  unfold part; rw [List.take_of_length_le (by omega)]; simp
theorem part_zero (f : Int → Int) (zs : List Int) (n : Nat) : part f zs n 0 = List.replicate n 0 := by simp [part]

/-- a call answers a row and an error -/
def RowPost (V : List Int) (E : Int) (w : World) (e : Ending) (w' : World) : Prop := ∃ a n cap, e = .returned (.tuple #[.slice a n cap, .int .i64 E]) ∧ Rd w' a n cap V ∧ Below w.heap.size w w'
theorem RowPost.mk {V : List Int} {E : Int} {w w' : World} {a : Option Addr} {n cap : Nat} (h : Rd w' a n cap V) (hb : Below w.heap.size w w') : RowPost V E w (.returned (.tuple #[.slice a n cap, .int .i64 E])) w' := ⟨a, n, cap, rfl, h, hb⟩

/-- checked -/
def chkV (l : List Int) : List Int := if okB l = true then l else []
set_option maxHeartbeats 400000 in
theorem checkedN_any (a : Option Addr) (n cap : Nat) (l : List Int) (w : World) (h : Rd w a n cap l) :
    Calls Tryz.prog 33 #[.slice a n cap] w (RowPost (chkV l) (errR l) w) := by
  have HC := Lib.hid (checkN_any a n cap l w h)
  have hc := h.cap
  cases ok : okB l with
  | true =>
    have HP := Lib.hid (show RowPost (chkV l) (errR l) w (.returned (.tuple #[.slice a n cap, .int .i64 0])) w by
      unfold chkV; rw [if_pos ok, errR_ok ok]; exact .mk h (Below.refl _ _))
    rw [errR_ok ok] at HC
    clear ok h
    go_enter Tryz.func33, Tryz.ntmps33
    go_wp2_with fail
    refine HC.out.mono ?_
    rintro e w' ⟨rfl, rfl⟩
    go_wp2_with fail
    go_ret2
    exact HP.out
  | false =>
    have HP := Lib.hid (show RowPost (chkV l) (errR l) w (.returned (.tuple #[.slice none 0 0, .int .i64 4])) w by
      unfold chkV; rw [if_neg (by simp [ok]), errR_no ok]; exact .mk (Rd.nil w) (Below.refl _ _))
    rw [errR_no ok] at HC
    clear ok h
    go_enter Tryz.func33, Tryz.ntmps33
    go_wp2_with fail
    refine HC.out.mono ?_
    rintro e w' ⟨rfl, rfl⟩
    go_wp2_with fail
    go_ret2
    exact HP.out
end Go.Proofs.YtkpaopfdnfgjeaaGreatDoor
