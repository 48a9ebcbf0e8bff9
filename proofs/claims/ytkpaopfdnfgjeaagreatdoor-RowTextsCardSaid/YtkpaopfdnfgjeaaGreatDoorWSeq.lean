/-
  strings.SplitSeq at a blank.
-/
import Derived.Test.YtkpaopfdnfgjeaaGreatDoorShelf
import Derived.Test.YtkpaopfdnfgjeaaGreatDoorWInt
import Derived.Test.YtkpaopfdnfgjeaaGreatDoorRBox
import Derived.Shelf.Abstract
import Derived.Shelf.RegionOpen
import Derived.OwnWalkIn
import Derived.TacticsInMore
import Derived.LoopNIn
import Derived.LoopIn
import Derived.RangeFuncBox
namespace Go.Proofs.YtkpaopfdnfgjeaaGreatDoor
open Go.RowKit Go.Shelf

attribute [local go_sem] Oper.semAt_some

/-- a word that comes -/
abbrev Wd := { s : ByteArray // s.size ≤ 70000 }
def wl (l : List Wd) : List (List UInt8) := l.map fun x => x.1.data.toList
theorem wl_snoc (l : List Wd) (x : Wd) : wl (l ++ [x]) = wl l ++ [x.1.data.toList] := by simp [wl]
/-- the three boxes of the iterator lie as they lay -/
def KeepS (Bs Bp Bv : Nat) (A B : World) : Prop := B.heap[Bs]? = A.heap[Bs]? ∧ B.heap[Bp]? = A.heap[Bp]? ∧ B.heap[Bv]? = A.heap[Bv]?
theorem keepS_t {Bs Bp Bv : Nat} {A B C : World} (h : KeepS Bs Bp Bv A B) (k : KeepS Bs Bp Bv B C) : KeepS Bs Bp Bv A C := ⟨k.1.trans h.1, k.2.1.trans h.2.1, k.2.2.trans h.2.2⟩
theorem keepS_b {Bs Bp Bv : Nat} {w : World} (h1 : Bs < w.heap.size) (h2 : Bp < w.heap.size) (h3 : Bv < w.heap.size) (W : World) (l : Nat) (o o' : Obj) (hl : w.heap.size ≤ l) (_h : W.heap[l]? = some o) (_hc : o.isCells = false) (_hw : o.isWalk = false) : KeepS Bs Bp Bv W (W.putObj l o') :=
  ⟨World.putObj_heap_other (by omega), World.putObj_heap_other (by omega), World.putObj_heap_other (by omega)⟩
/-- the text that a box holds -/
def leftS (B : Nat) (W : World) : Nat := match W.cell? ⟨B, 0, none⟩ with
  | some (.string s) => s.size
  | _ => 0
theorem leftS_of {B : Nat} {W : World} {s : ByteArray} (h : W.cell? ⟨B, 0, none⟩ = some (.string s)) : leftS B W = s.size := by unfold leftS; rw [h]
theorem ext_take (t : ByteArray) (i : Nat) : (t.extract 0 i).data.toList = t.data.toList.take i := by
  rw [show (t.extract 0 i).data = t.data.extract 0 i from ByteArray.data_extract .., Array.toList_extract]; simp [List.extract_eq_take_drop]
theorem ext_drop (t : ByteArray) (i : Nat) : (t.extract i t.size).data.toList = t.data.toList.drop i := by
  rw [show (t.extract i t.size).data = t.data.extract i t.size from ByteArray.data_extract .., Array.toList_extract]
  rw [← wlen_list]; simp only [List.extract_eq_take_drop]
  exact List.take_of_length_le (by simp)
theorem ext_size (t : ByteArray) (i : Nat) : (t.extract i t.size).size = t.size - i := by
  rw [← wlen_list, ext_drop, List.length_drop, wlen_list]

set_option maxRecDepth 100000 in
set_option maxHeartbeats 2000000 in
theorem split1_in (n : Nat) (hn : 1 ≤ n) (l Bs Bp Bv : Nat) (L : List (List UInt8)) (N : Nat) (hN : L.length ≤ N) (hsp : Bs ≠ Bp) (hsv : Bs ≠ Bv) (J Jx : List Wd → World → Prop)
    (hJ : ∀ pre A v, J pre A → J pre (A.setCell ⟨Bs, 0, none⟩ v))
    (hY : ∀ pre x W, J pre W → pre.length < N → YieldAt Fence.wide (n - 1) Tryz.prog l #[.string x.1] W fun e W' =>
      (e = .returned (.bool true) ∧ J (pre ++ [x]) W' ∧ KeepS Bs Bp Bv W W') ∨ (e = .returned (.bool false) ∧ Jx (pre ++ [x]) W'))
    (s : ByteArray) (hs : s.size ≤ 70000) (hL : wordsL s.data.toList = L)
    (W : World) (hBs : Boxed W Bs 9 (.string s)) (hBp : Boxed W Bp 9 (.string ⟨#[32]⟩)) (hBv : Boxed W Bv 3 (.int .i64 0)) (h0 : J [] W) :
    CallsIn Fence.wide n Tryz.prog 53 #[.func (.yield l) #[] #[], .pointer (some ⟨Bp, 0, none⟩), .pointer (some ⟨Bs, 0, none⟩), .pointer (some ⟨Bv, 0, none⟩)] W fun e W' => (∃ v, e = .returned v) ∧
      ((∃ zs, wl zs = L ∧ J zs W') ∨ (∃ pre, (∃ r, wl pre ++ r = L) ∧ Jx pre W')) := by
  have HY := Lib.hid hY
  have HJ := Lib.hid hJ
  have c1 := hBp.cell
  have HB := Lib.hid (show Boxed W Bs 9 (.string s) ∧ Boxed W Bp 9 (.string ⟨#[32]⟩) ∧ Boxed W Bv 3 (.int .i64 0) from ⟨hBs, hBp, hBv⟩)
  have HL := Lib.hid hL
  clear hL hBs hBp hBv hY hJ
  refine callsIn_of_wp Tryz.func53 rfl trivial ?_ rfl
  simp only [Tryz.ntmps53, List.size_toArray, List.length_cons, List.length_nil, Nat.reduceAdd, Nat.reduceSub, Array.replicate_succ, Array.replicate_zero, List.push_toArray, List.append_toArray, List.nil_append, List.cons_append]
  gi_wp2
  gi_loopw [7, 8] (fun _ _ wr => ∃ (t : ByteArray) (pre : List Wd), t.size ≤ 70000 ∧ Hid (wl pre ++ wordsL t.data.toList = L) ∧ J pre wr ∧ Hid (Boxed wr Bs 9 (.string t) ∧ Boxed wr Bp 9 (.string ⟨#[32]⟩) ∧ Boxed wr Bv 3 (.int .i64 0)))
    (fun _ _ wr => leftS Bs wr)
  case atStart => exact ⟨s, [], hs, by rw [← HL.out]; rfl, h0, HB⟩
  case round =>
    obtain ⟨t, pre, ht, HW, hJp, HBx⟩ := hrel
    have d1 := HBx.out.1.cell
    have d2 := HBx.out.2.1.cell
    have d3 := HBx.out.2.2.cell
    have d4 := HBx.out.1.frozen
    have HLe := Lib.hid (leftS_of d1)
    have hge := Lib.indexByte_ge t.data.toList 32
    have HI := Lib.hid (fun wx => Tryz.strings_Index_one t 32 wx)
    by_cases hi : Lib.indexByte t.data.toList 32 = -1
    · rw [hi] at HI
      have HWn := Lib.hid (words_none hi)
      obtain ⟨fn, tmps, assign, body, hy, hR⟩ := HY.out pre ⟨t, ht⟩ wr hJp (by
        have := congrArg List.length HW.out
        rw [HWn.out, List.length_append, List.length_singleton] at this
        unfold wl at this; rw [List.length_map] at this; omega)
      dsimp only at hy
      clear hge hi
      gi_wp2_with (refine ⟨trivial, ?_⟩; gi_at_call 55; refine (CallsIn.mono (callsIn_wide.2 (HI.out _)) ?_); rintro e w' ⟨rfl, hw⟩; obtain rfl := hw)
      refine hR.mono ?_
      rintro e W3 (⟨rfl, hJ3, -⟩ | ⟨rfl, hJx3⟩)
      · gi_wp2
        go_end0
        refine ⟨⟨_, rfl⟩, .inl ⟨_, ?_, hJ3⟩⟩
        rw [wl_snoc, ← HW.out, HWn.out]
      · gi_wp2
        go_end0
        refine ⟨⟨_, rfl⟩, .inr ⟨_, ⟨[], ?_⟩, hJx3⟩⟩
        rw [wl_snoc, ← HW.out, HWn.out, List.append_nil]
    · obtain ⟨i, hi2⟩ : ∃ i : Nat, Lib.indexByte t.data.toList 32 = (i : Int) := ⟨(Lib.indexByte t.data.toList 32).toNat, by omega⟩
      rw [hi2] at HI
      obtain ⟨hws, hlt⟩ := words_some hi2
      rw [wlen_list] at hlt
      have HWs := Lib.hid hws
      have hx1 : (t.extract 0 i).size ≤ 70000 := by rw [← wlen_list, ext_take, List.length_take]; rw [wlen_list]; omega
      obtain ⟨fn, tmps, assign, body, hy, hR⟩ := HY.out pre ⟨t.extract 0 i, hx1⟩ wr hJp (by
        have := congrArg List.length HW.out
        rw [HWs.out, List.length_append, List.length_cons] at this
        unfold wl at this; rw [List.length_map] at this; omega)
      dsimp only at hy
      have g1 : (i : Int) ≤ t.size := by omega
      have g2 : (i : Int) + 1 ≤ t.size := by omega
      clear hge hi hi2 hws
      gi_wp2_with (refine ⟨trivial, ?_⟩; gi_at_call 55; refine (CallsIn.mono (callsIn_wide.2 (HI.out _)) ?_); rintro e w' ⟨rfl, hw⟩; obtain rfl := hw)
      refine hR.mono ?_
      rintro e W3 (⟨rfl, hJ3, k1, k2, k3⟩ | ⟨rfl, hJx3⟩)
      · have b1 : Boxed W3 Bs 9 (.string t) := k1.trans HBx.out.1
        have b2 : Boxed W3 Bp 9 (.string ⟨#[32]⟩) := k2.trans HBx.out.2.1
        have b3 : Boxed W3 Bv 3 (.int .i64 0) := k3.trans HBx.out.2.2
        have e1 := b1.cell
        have e2 := b2.cell
        have e4 := b1.frozen
        have HBy := Lib.hid (show ∀ u : ByteArray, Boxed (W3.setCell ⟨Bs, 0, none⟩ (.string u)) Bs 9 (.string u) ∧ Boxed (W3.setCell ⟨Bs, 0, none⟩ (.string u)) Bp 9 (.string ⟨#[32]⟩) ∧ Boxed (W3.setCell ⟨Bs, 0, none⟩ (.string u)) Bv 3 (.int .i64 0) from fun u => ⟨b1.set _, b2.other (fun e => hsp e.symm) _, b3.other (fun e => hsv e.symm) _⟩)
        clear k1 k2 k3 b1 b2 b3
        gi_wp2
        go_roundw
        case rel =>
          refine ⟨t.extract (i + 1) t.size, pre ++ [⟨t.extract 0 i, hx1⟩], by rw [ext_size]; omega, ?_, HJ.out _ _ _ hJ3, Lib.hid (HBy.out _)⟩
          refine Lib.hid ?_
          rw [wl_snoc, ext_drop, ← HW.out, HWs.out, ext_take]; simp
        case measure =>
          rw [HLe.out, leftS_of (HBy.out _).1.cell, ext_size]; omega
      · gi_wp2
        refine bodyPost_ret (results_none rfl _ _ _) rfl ?_
        refine ⟨⟨_, rfl⟩, .inr ⟨_, ⟨wordsL (t.data.toList.drop (i + 1)), ?_⟩, hJx3⟩⟩
        rw [wl_snoc, ← HW.out, HWs.out, ext_take]; simp
end Go.Proofs.YtkpaopfdnfgjeaaGreatDoor
