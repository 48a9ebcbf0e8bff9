/-
  The reference of package whole: pieces of nine digits; trim.
-/
import Derived.Test.YtjebddpapbopnaaGreatDoorZBox
import Derived.OwnWalk
import Derived.Laws.OwnMore
import Derived.OneCell
namespace Go.Proofs.YtjebddpapbopnaaGreatDoor
open Go.RowKit

def cI (l : List Nat) : List Value := l.map fun n : Nat => Value.int .i64 (n : Int)
theorem cI_len (l : List Nat) : (cI l).length = l.length := by simp [cI]
theorem cI_at (l : List Nat) (i : Nat) (h : i < l.length) : (cI l)[i]? = some (.int .i64 ((l[i]'h : Nat) : Int)) := by simp [cI, h]
theorem cI_append (l m : List Nat) : cI (l ++ m) = cI l ++ cI m := by simp [cI]
theorem cI_set (l : List Nat) (k v : Nat) : (cI l).set k (.int .i64 (v : Int)) = cI (l.set k v) := by simp [cI, List.map_set]
theorem infoZ : (Tryz.prog.info? 3).map (fun i => (i.zero, i.size, i.bytes)) = some (some (.int .i64 0), 1, 8) := by kernel_rfl
theorem lies1 (w : World) (n : Int) (j : Nat) (u : Value) (h : ([Value.int .i64 n] : List Value)[j]? = some u) : (w.alloc (.cells #[.int .i64 n] 3)).cell? ((⟨w.heap.size, 0, none⟩ : Addr).add j) = some u := by
  match j, h with
  | 0, h => simp at h; subst h; rw [Lib.add_plain, World.cell?_alloc_new]; rfl
theorem ones1 (n : Int) : ∀ u ∈ [Value.int .i64 n], u.oneCell' = true := fun u hu => by simp at hu; subst hu; rfl
/-- a slice of ints of the call's own -/
def Ow (w : World) (B : Nat) (vo : Option Addr) (vc : Nat) (L : List Nat) : Prop := w.ownsRow B 3 1 (.slice vo L.length vc) L.length (cI L)
theorem Ow.nil (w : World) (B : Nat) : Ow w B none 0 [] := World.ownsRow_nil _ _ _ _
theorem Ow.snoc {w : World} {B n : Nat} {v : Value} {L : List Nat} {x : Nat} {xs : List Value} (h : w.ownsRow B 3 1 v n xs) (hn : n = L.length + 1) (hx : xs = cI L ++ [.int .i64 (x : Int)]) : ∃ g cap, v = .slice (some ⟨g, 0, none⟩) (L ++ [x]).length cap ∧ Ow w B (some ⟨g, 0, none⟩) cap (L ++ [x]) := by
  obtain ⟨g, cap, rfl⟩ := own_some h (by omega)
  have e : (L ++ [x]).length = n := by simp; omega
  refine ⟨g, cap, by rw [e], ?_⟩
  unfold Ow
  rw [e, cI_append]
  have e2 : cI [x] = [.int .i64 (x : Int)] := rfl
  rw [e2, ← hx]; exact h
/-- pieces that are read -/
structure Pd (w : World) (a : Option Addr) (cap : Nat) (l : List Nat) : Prop where
  lc : l.length ≤ cap
  lim : cap ≤ 9223372036854775807
  nine : lt9 l
  cell : (a = none ∧ l = [] ∧ cap = 0) ∨ ∃ g, a = some ⟨g, 0, none⟩ ∧ g < w.heap.size ∧ ∀ i (h : i < l.length), w.cell? ⟨g, i, none⟩ = some (.int .i64 ((l[i]'h : Nat) : Int))
theorem Pd.below {w w' : World} {a : Option Addr} {cap : Nat} {l : List Nat} (h : Pd w a cap l) (hb : Below w.heap.size w w') : Pd w' a cap l := by
  refine ⟨h.lc, h.lim, h.nine, ?_⟩
  rcases h.cell with h5 | ⟨g, e, hlt, hc⟩
  · exact .inl h5
  · exact .inr ⟨g, e, Nat.lt_of_lt_of_le hlt hb.size, fun i hi => by rw [hb.cell (p := ⟨g, i, none⟩) hlt]; exact hc i hi⟩
theorem Pd.take {w : World} {a : Option Addr} {cap : Nat} {l : List Nat} (h : Pd w a cap l) (k : Nat) (hk : k ≤ l.length) : Pd w a cap (l.take k) := by
  have hl : (l.take k).length = k := by rw [List.length_take]; omega
  refine ⟨by rw [hl]; have := h.lc; omega, h.lim, lt9_take h.nine k, ?_⟩
  rcases h.cell with ⟨h1, h2, h3⟩ | ⟨g, e, hlt, hc⟩
  · exact .inl ⟨h1, by rw [h2, List.take_nil], h3⟩
  · exact .inr ⟨g, e, hlt, fun i hi => by rw [List.getElem_take]; exact hc i (by omega)⟩
theorem Pd.trim {w : World} {a : Option Addr} {cap : Nat} {l : List Nat} (h : Pd w a cap l) : Pd w a cap (trimP l) := by
  have h1 := (trimP_props l).2.2.2.2
  have h2 := (trimP_props l).2.2.2.1
  rw [h1]; exact h.take _ h2
theorem Ow.pd {w : World} {B : Nat} {vo : Option Addr} {vc : Nat} {L : List Nat} (h : Ow w B vo vc L) (h9 : lt9 L) : Pd w vo vc L := by
  have hlt := fun q hq => (World.ownsRow.lt h q hq).2
  have hh0 := h
  obtain ⟨h1, h2⟩ := h
  rcases h2 with ⟨h0, _⟩ | ⟨g, cap', cur, e, hg, hh, h3, h4, h5, h6⟩
  · injection h0 with e1 e2 e3
    have hl : L = [] := List.length_eq_zero_iff.1 e2
    exact ⟨by rw [e2, e3]; exact Nat.le_refl _, by rw [e3]; decide, h9, .inl ⟨e1, hl, e3⟩⟩
  · cases e
    refine ⟨h3, by unfold maxLen at h4; exact h4, h9, .inr ⟨g, rfl, hlt g rfl, fun i hi => ?_⟩⟩
    rw [World.ownsRow.cellAt hh0 i (by omega), cI_at L i hi]
set_option maxHeartbeats 800000 in
theorem trimZ_any (a : Option Addr) (cap : Nat) (l : List Nat) (w : World) (h : Pd w a cap l) :
    Calls Tryz.prog 91 #[.slice a l.length cap] w fun e w' => e = .returned (.slice a (trimP l).length cap) ∧ w = w' := by
  have hc := h.lc
  have hl := h.lim
  have HL := Lib.hid (trimP_props l).2.2.2.1
  rcases h.cell with ⟨rfl, rfl, rfl⟩ | ⟨g, rfl, hlt, hcell⟩
  · clear h
    go_enter Tryz.func91, Tryz.ntmps91
    go_wp2_with fail
    refine wp_loop_rounds 1 ?_
    rw [rounds_succ]
    go_wp2_with fail
    go_ret
    exact ⟨rfl, rfl⟩
  · have HC := Lib.hid hcell
    clear h hcell
    go_enter Tryz.func91, Tryz.ntmps91
    go_wp2_with fail
    go_loop [3] (fun v => ∃ k : Nat, k ≤ l.length ∧ v = .int .i64 (k : Int) ∧ Hid (trimP (l.take k) = trimP l)) (fun v => (intOf v).toNat)
    case atStart => exact ⟨l.length, Nat.le_refl _, rfl, by show _ = _; rw [List.take_length]⟩
    case round =>
      obtain ⟨k, hk, rfl, HT⟩ := hrel
      by_cases hk0 : k = 0
      · subst hk0
        have HV := Lib.hid (show (trimP l).length = 0 by rw [← HT.out]; rfl)
        go_wp2_with fail
        go_ret
        exact ⟨by rw [HV.out]; rfl, rfl⟩
      · obtain ⟨j, rfl⟩ : ∃ j, k = j + 1 := ⟨k - 1, by omega⟩
        have hj : j < l.length := by omega
        have hcell := HC.out j hj
        have hj1 : ((j + 1 : Nat) : Int) - 1 = (j : Int) := by omega
        by_cases h0 : l[j] = 0
        · have HT2 := Lib.hid (trimP_take hj h0)
          rw [h0] at hcell
          clear h0
          go_wp2_with fail
          all_goals go_round
          case rel => exact ⟨j, by omega, by go_num, by show _ = _; rw [← HT2.out]; exact HT.out⟩
          case measure => simp [intOf]
        · have HT2 := Lib.hid (trimP_take' hj h0)
          have HV := Lib.hid (show (trimP l).length = j + 1 by rw [← HT.out, HT2.out, List.length_take]; omega)
          have hb : (((l[j] : Nat) : Int) == 0) = false := by rw [beq_eq_false_iff_ne]; omega
          have hpos : 0 < l[j] := by omega
          clear h0
          go_wp2_with fail
          go_ret
          exact ⟨by rw [HV.out]; rfl, rfl⟩
end Go.Proofs.YtjebddpapbopnaaGreatDoor
