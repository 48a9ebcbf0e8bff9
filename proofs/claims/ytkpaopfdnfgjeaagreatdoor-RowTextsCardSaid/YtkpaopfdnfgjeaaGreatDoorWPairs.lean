/-
  The iterator over two rows.
-/
import Derived.Test.YtkpaopfdnfgjeaaGreatDoorWParts
import Derived.RangeFuncNested
import Derived.RangeFuncBound
import Derived.RangeFuncCalls
import Derived.RangeFuncLeaves
import Derived.Shelf.Abstract
import Derived.Shelf.RegionOpen
import Derived.OwnWalkIn
import Derived.TacticsInMore
import Derived.LoopNIn
import Derived.LoopIn
namespace Go.Proofs.YtkpaopfdnfgjeaaGreatDoor
open Go.RowKit Go.Shelf

attribute [local go_sem] Oper.semAt_some

/-- what has come when k rounds are over -/
def upto {α : Type} (f : Nat → α) (k : Nat) : List α := (List.range k).map f
theorem upto_succ {α : Type} (f : Nat → α) (k : Nat) : upto f (k + 1) = upto f k ++ [f k] := by simp [upto, List.range_succ]
theorem upto_length {α : Type} (f : Nat → α) (k : Nat) : (upto f k).length = k := by simp [upto]
/-- two elements of right rows -/
abbrev EPair := { p : Int × Int // (-1000000000 ≤ p.1 ∧ p.1 ≤ 1000000000) ∧ (-1000000000 ≤ p.2 ∧ p.2 ≤ 1000000000) }

/-- what a round keeps: what lay below, and the box of the second row -/
def KeepP (n₀ Bb : Nat) (sv : Value) (W W' : World) : Prop := Below n₀ W W' ∧ (W.cell? ⟨Bb, 0, none⟩ = some sv → W'.cell? ⟨Bb, 0, none⟩ = some sv)
theorem keepP_t {n₀ Bb : Nat} {sv : Value} {A B C : World} (h : KeepP n₀ Bb sv A B) (k : KeepP n₀ Bb sv B C) : KeepP n₀ Bb sv A C := ⟨h.1.trans k.1, fun e => k.2 (h.2 e)⟩
theorem keepP_b {n₀ Bb : Nat} {sv : Value} {w : World} (hn : n₀ ≤ w.heap.size) (W : World) (l : Nat) (o o' : Obj) (hl : w.heap.size ≤ l) (h : W.heap[l]? = some o) (hc : o.isCells = false) (hw : o.isWalk = false) : KeepP n₀ Bb sv W (W.putObj l o') :=
  ⟨belowK_b hn W l o o' hl h hc hw, fun hcell => cell_kept hcell (grownBy_putObj' W l o') (fun r e => by cases e; exact ⟨o, h, hc⟩)⟩

set_option maxRecDepth 100000 in
set_option maxHeartbeats 2000000 in
theorem pairs1_in (F : Fence) (n : Nat) (h7 : F.fn 45) (hro : F.round = none) (hn : 1 ≤ n) (l Ba Bb n₀ b off b' off' len cap cap' : Nat) (f : Nat → EPair) (hreach : len * 8 ≤ 140737488351232) (hb : b < n₀) (hb' : b' < n₀) (J Jx : List EPair → World → Prop)
    (hY : ∀ pre x W, J pre W → pre.length < len → YieldAt F (n - 1) Tryz.prog l #[.int .i64 x.1.1, .int .i64 x.1.2] W fun e W' =>
      (e = .returned (.bool true) ∧ J (pre ++ [x]) W' ∧ KeepP n₀ Bb (.slice (some ⟨b', off', none⟩) len cap') W W') ∨ (e = .returned (.bool false) ∧ Jx (pre ++ [x]) W'))
    (W : World) (hBa : W.cell? ⟨Ba, 0, none⟩ = some (.slice (some ⟨b, off, none⟩) len cap)) (hBb : W.cell? ⟨Bb, 0, none⟩ = some (.slice (some ⟨b', off', none⟩) len cap'))
    (hcx : ∀ j, j < len → W.cell? ⟨b, off + j, none⟩ = some (.int .i64 (f j).1.1)) (hcy : ∀ j, j < len → W.cell? ⟨b', off' + j, none⟩ = some (.int .i64 (f j).1.2)) (h0 : J [] W) :
    CallsIn F n Tryz.prog 45 #[.func (.yield l) #[] #[], .pointer (some ⟨Ba, 0, none⟩), .pointer (some ⟨Bb, 0, none⟩)] W fun e W' => (∃ v, e = .returned v) ∧
      ((∃ zs, zs = upto f len ∧ J zs W') ∨ (∃ pre, (∃ k, k ≤ len ∧ pre = upto f k) ∧ Jx pre W')) := by
  have HX := Lib.hid hcx
  have HY' := Lib.hid hcy
  have HBb := Lib.hid hBb
  clear hcx hcy hBb
  refine callsIn_of_wp Tryz.func45 rfl h7 ?_ hro
  simp only [Tryz.ntmps45, List.size_toArray, List.length_cons, List.length_nil, Nat.reduceAdd, Nat.reduceSub, Array.replicate_succ, Array.replicate_zero, List.push_toArray, List.append_toArray, List.nil_append, List.cons_append]
  gi_wp2
  gi_loopw [8] (fun i wr => ∃ k : Nat, k ≤ len ∧ i = .int .i64 k ∧ J (upto f k) wr ∧ KeepP n₀ Bb (.slice (some ⟨b', off', none⟩) len cap') W wr)
    (fun i _ => len - (intOf i).toNat)
  case atStart => exact ⟨0, Nat.zero_le _, rfl, h0, ⟨Below.refl _ _, fun h => h⟩⟩
  case round =>
    obtain ⟨k, hk, rfl, hJs, hnx⟩ := hrel
    have HK := Lib.hid hnx
    clear hnx
    by_cases hlt : k < len
    · obtain ⟨fn, tmps, assign, body, hy, hR⟩ := hY _ (f k) wr hJs (by rw [upto_length]; exact hlt)
      have hcx' : wr.cell? ⟨b, off + k, none⟩ = some (.int .i64 (f k).1.1) := (HK.out.1.cell (p := ⟨b, off + k, none⟩) hb).trans (HX.out k hlt)
      have hcy' : wr.cell? ⟨b', off' + k, none⟩ = some (.int .i64 (f k).1.2) := (HK.out.1.cell (p := ⟨b', off' + k, none⟩) hb').trans (HY'.out k hlt)
      have hbb' := HK.out.2 HBb.out
      gi_wp2
      refine hR.mono ?_
      rintro e W3 (⟨rfl, hJ3, hk3⟩ | ⟨rfl, hJx3⟩)
      · have HK3 := Lib.hid (keepP_t HK.out hk3)
        clear hk3
        gi_wp2
        go_roundw
        case rel => exact ⟨k + 1, by omega, by simp, by rw [upto_succ]; exact hJ3, HK3.out⟩
        case measure => simp [intOf]; omega
      · gi_wp2
        refine bodyPost_ret (results_none rfl _ _ _) rfl ?_
        exact ⟨⟨_, rfl⟩, .inr ⟨_, ⟨k + 1, by omega, (upto_succ _ _).symm⟩, hJx3⟩⟩
    · obtain rfl : k = len := by omega
      gi_wp2
      go_end0
      exact ⟨⟨_, rfl⟩, .inl ⟨_, rfl, hJs⟩⟩

set_option maxRecDepth 100000 in
set_option maxHeartbeats 1000000 in
/-- .. at rows without elements: no round. -/
theorem pairs1_nil_in (F : Fence) (n : Nat) (h7 : F.fn 45) (hro : F.round = none) (l Ba Bb cap : Nat) (a : Option Addr) (J : List EPair → World → Prop) (W : World) (hBa : W.cell? ⟨Ba, 0, none⟩ = some (.slice a 0 cap)) (h0 : J [] W) :
    CallsIn F n Tryz.prog 45 #[.func (.yield l) #[] #[], .pointer (some ⟨Ba, 0, none⟩), .pointer (some ⟨Bb, 0, none⟩)] W fun e W' => (∃ v, e = .returned v) ∧ J [] W' := by
  refine callsIn_of_wp Tryz.func45 rfl h7 ?_ hro
  simp only [Tryz.ntmps45, List.size_toArray, List.length_cons, List.length_nil, Nat.reduceAdd, Nat.reduceSub, Array.replicate_succ, Array.replicate_zero, List.push_toArray, List.append_toArray, List.nil_append, List.cons_append]
  gi_wp2
  gi_loopw [8] (fun i wr => i = .int .i64 0 ∧ J [] wr) (fun _ _ => 0)
  case atStart => exact ⟨rfl, h0⟩
  case round =>
    obtain ⟨rfl, hJs⟩ := hrel
    gi_wp2
    go_end0
    exact ⟨⟨_, rfl⟩, hJs⟩

set_option maxHeartbeats 1000000 in
theorem pairs_in (F : Fence) (n : Nat) (h5 : F.fn 27) (hro : F.round = none) (a a' : Option Addr) (len cap len' cap' : Nat) (w : World) :
    CallsIn F n Tryz.prog 27 #[.slice a len cap, .slice a' len' cap'] w fun e w' => e = .returned (.func (.func 45) #[] #[.pointer (some ⟨w.heap.size, 0, none⟩), .pointer (some ⟨w.heap.size + 1, 0, none⟩)]) ∧ w' = (w.alloc (.cells #[.slice a len cap] 23)).alloc (.cells #[.slice a' len' cap'] 23) := by
  refine callsIn_of_wp Tryz.func27 rfl h5 ?_ hro
  simp only [Tryz.ntmps27, List.size_toArray, List.length_cons, List.length_nil, Nat.reduceAdd, Nat.reduceSub, Array.replicate_succ, Array.replicate_zero, List.push_toArray, List.append_toArray, List.nil_append, List.cons_append]
  gi_wp2
  go_ret
  exact ⟨rfl, rfl⟩

/-- two rows of one length, in blocks below n₀ -/
def Two (n₀ : Nat) (W : World) (a : Option Addr) (len : Nat) (a' : Option Addr) (f : Nat → EPair) : Prop :=
  len = 0 ∨ ∃ b off b' off', a = some ⟨b, off, none⟩ ∧ a' = some ⟨b', off', none⟩ ∧ b < n₀ ∧ b' < n₀ ∧ (∀ j, j < len → W.cell? ⟨b, off + j, none⟩ = some (.int .i64 (f j).1.1)) ∧ ∀ j, j < len → W.cell? ⟨b', off' + j, none⟩ = some (.int .i64 (f j).1.2)
theorem Two.below {n₀ : Nat} {A B : World} (h : Below n₀ A B) {a : Option Addr} {len : Nat} {a' : Option Addr} {f : Nat → EPair} : Two n₀ A a len a' f → Two n₀ B a len a' f
  | .inl e => .inl e
  | .inr ⟨b, off, b', off', e1, e2, hb, hb', h1, h2⟩ => .inr ⟨b, off, b', off', e1, e2, hb, hb', fun j hj => (h.cell (p := ⟨b, off + j, none⟩) hb).trans (h1 j hj), fun j hj => (h.cell (p := ⟨b', off' + j, none⟩) hb').trans (h2 j hj)⟩
/-- the pairs of two right rows -/
theorem at_ok {l : List Int} (h : okB l = true) (k : Nat) : -1000000000 ≤ l[k]?.getD 0 ∧ l[k]?.getD 0 ≤ 1000000000 := by
  by_cases hk : k < l.length
  · rw [List.getElem?_eq_getElem hk]; exact okB_at h k hk
  · rw [List.getElem?_eq_none (by omega)]; decide
def pairF {xs ys : List Int} (hx : okB xs = true) (hy : okB ys = true) (k : Nat) : EPair := ⟨(xs[k]?.getD 0, ys[k]?.getD 0), at_ok hx k, at_ok hy k⟩
theorem Two.of {w : World} {a a' : Option Addr} {len cap cap' : Nat} {xs ys : List Int} (hx : Rd w a len cap xs) (hy : Rd w a' len cap' ys) (ox : okB xs = true) (oy : okB ys = true) : Two w.heap.size w a len a' (pairF ox oy) := by
  rcases hx.ways with ⟨_, h0⟩ | ⟨b, off, rfl, hb, hc⟩
  · exact .inl h0
  · rcases hy.ways with ⟨_, h0⟩ | ⟨b', off', rfl, hb', hc'⟩
    · exact .inl h0
    · refine .inr ⟨b, off, b', off', rfl, rfl, hb, hb', fun j hj => ?_, fun j hj => ?_⟩
      · have hj' : j < xs.length := by rw [hx.len]; exact hj
        unfold pairF; simp only
        rw [hc j hj', List.getElem?_eq_getElem hj']; rfl
      · have hj' : j < ys.length := by rw [hy.len]; exact hj
        unfold pairF; simp only
        rw [hc' j hj', List.getElem?_eq_getElem hj']; rfl

theorem pairs_stops (F : Fence) (n : Nat) (h7 : F.fn 45) (hro : F.round = none) (hn : 1 ≤ n) (Ba Bb n₀ : Nat) (a a' : Option Addr) (len cap cap' : Nat) (f : Nat → EPair) (hreach : len * 8 ≤ 140737488351232) (w : World) (hBa : Ba < w.heap.size) (hBb : Bb < w.heap.size) (hn₀ : n₀ ≤ w.heap.size)
    (hca : w.cell? ⟨Ba, 0, none⟩ = some (.slice a len cap)) (hcb : w.cell? ⟨Bb, 0, none⟩ = some (.slice a' len cap')) (hI : Two n₀ w a len a' f) :
    SeqStopsK F n Tryz.prog 45 #[.pointer (some ⟨Ba, 0, none⟩), .pointer (some ⟨Bb, 0, none⟩)] (fun x : EPair => #[Value.int .i64 x.1.1, Value.int .i64 x.1.2]) (KeepP n₀ Bb (.slice a' len cap')) (fun zs => zs = upto f len)
      (fun pre => ∃ k, k ≤ len ∧ pre = upto f k) len w := fun l J Jx W hW _ _ hY h0 => by
  have hc' := (hW.cell (p := ⟨Ba, 0, none⟩) hBa).trans hca
  have hd' := (hW.cell (p := ⟨Bb, 0, none⟩) hBb).trans hcb
  rcases hI.below (hW.mono hn₀) with rfl | ⟨b, off, b', off', rfl, rfl, hb, hb', h1, h2⟩
  · exact (pairs1_nil_in F n h7 hro l Ba Bb cap a J W hc' h0).mono fun e W' ⟨he, hj⟩ => ⟨he, .inl ⟨_, rfl, hj⟩⟩
  · exact pairs1_in F n h7 hro hn l Ba Bb n₀ b off b' off' len cap cap' f hreach hb hb' J Jx hY W hc' hd' h1 h2 h0
end Go.Proofs.YtkpaopfdnfgjeaaGreatDoor
