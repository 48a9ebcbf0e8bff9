/-
  The laws of package whole: a slice of numbers that came in, opened.
-/
import Derived.Test.YtjebddpapbopnaaGreatDoorZSums
import Derived.Lib.SmallJoins
import Derived.ChangeSame
import Derived.ChangeMaps5
import Derived.OpenShut
import Derived.Deep.SlicePairs
namespace Go.Proofs.YtjebddpapbopnaaGreatDoor
open Go.ChangeShapes Go.WideShapes Go.ChangeAt Go.RowKit Go.Joins
set_option maxRecDepth 100000 in
theorem open_nums {H : Type} {enc : TypeId × Value → H} {W : World} {base b0 : Nat} {held : Bool} {r : Reach} {v : Value} {d : DataW H} {p : List MemPlace}
    (hv : Value.okWide Tryz.prog W r b0 43 v) (h : DataW.Trod enc Tryz.prog W base (fun _ => true) held 43 v d p) :
    ∃ (A : Option Addr) (n c : Nat), v = .slice A n c ∧ Nums W A n ∧ n ≤ 9223372036854775807 := by
  obtain ⟨A, n, c, rfl⟩ := okWide_slice Tryz.underlying43 hv
  obtain ⟨fuel, hf⟩ := h
  rcases Go.Deep.open_slice_pairs Tryz.underlying43 Tryz.underlying33 (by kernel_rfl) rfl rfl (by kernel_rfl) (by kernel_rfl) hf with ⟨hcs, _⟩ | ⟨x, l, c', m, n', V0, V1, D0, D1, P0, P1, hcs, hb, hl, hcap, hm, _, hi⟩
  · simp [Value.cells] at hcs
    obtain ⟨rfl, rfl, rfl⟩ := hcs
    exact ⟨none, 0, 0, rfl, .inl rfl, by decide⟩
  · simp [Value.cells] at hcs
    obtain ⟨rfl, rfl, rfl⟩ := hcs
    refine ⟨some x, n, c, rfl, ?_, by unfold maxLen at hcap; omega⟩
    by_cases h0 : n = 0
    · exact .inl h0
    · right
      have hmc : m = c := by rw [hm]; rfl
      obtain ⟨g, off, spot⟩ := x
      have hc := (hi 0 (by omega)).1
      have hspot : spot = none := by simpa [Addr.add] using World.cell?_spot hc
      subst hspot
      have hlt : g < W.heap.size := by
        apply Nat.lt_of_not_le; intro hle
        rw [Lib.add_plain] at hc
        unfold World.cell? at hc
        simp only [Array.getElem?_eq_none hle] at hc; simp at hc
      refine ⟨g, off, rfl, hlt, fun i hin => ?_⟩
      obtain ⟨q0, q1, t0, t1⟩ := hi i (by omega)
      rw [Lib.add_plain] at q0 q1
      obtain ⟨b, hb, -⟩ := DataW.trod_bool Tryz.underlying4 t0
      have hV0 : V0 i = .bool b := by simpa using hb
      rw [hV0] at q0
      rw [← Nat.add_assoc] at q1
      rcases open_ints Tryz.underlying31 Tryz.underlying5 (by kernel_rfl) t1 with ⟨hcs, _⟩ | ⟨x, l, c, zs, hcs, _, hl, hm, hz, _, hcell, hwz⟩
      · have hV1 : V1 i = .slice none 0 0 := by simpa using hcs
        rw [hV1] at q1
        exact ⟨b, none, 0, 0, [], q0, q1, .inl ⟨rfl, rfl, rfl, rfl⟩⟩
      · have hV1 : V1 i = .slice (some x) l c := by simpa using hcs
        rw [hV1] at q1
        exact ⟨b, some x, l, c, zs, q0, q1, .inr ⟨_, rfl, hl, hm, by simpa using hz, hcell, hwz⟩⟩
end Go.Proofs.YtjebddpapbopnaaGreatDoor
