/-
  Texts of one seat, joined: YOpenP.
-/
import Derived.Test.YtdgbplppabalgaaGreatDoorJ17
namespace Go.Proofs.YtdgbplppabalgaaGreatDoor
open Go.ChangeShapes Go.WideShapes Go.ChangeAt Go.RowKit Go.Joins
theorem okWide_array {P : Program} {w : World} {r : Reach} {base : Nat} {t : TypeId} {v : Value} {n : Nat} {e : TypeId} (ht : P.underlying t = some (.array n e)) (h : Value.okWide P w r base t v) : ∃ cs, v = .agg cs ∧ cs.size = P.cellsOf t := by
  unfold Value.okWide at h
  simp only [ht] at h
  obtain ⟨cs, h1, h2, -⟩ := h
  exact ⟨cs, h1, h2⟩
set_option maxRecDepth 100000 in
theorem open_pair {H : Type} {enc : TypeId × Value → H} {W : World} {base b0 : Nat} {held : Bool} {r : Reach} {v : Value} {d : DataW H} {p : List MemPlace}
    (hv : Value.okWide Tryz.prog W r b0 34 v) (h : DataW.Trod enc Tryz.prog W base (fun _ => true) held 34 v d p) :
    ∃ x y : Int, v = .agg #[.int .i64 x, .int .i64 y] ∧ (Lit.int .i64 x).wf = true ∧ (Lit.int .i64 y).wf = true := by
  obtain ⟨cs, rfl, hsz⟩ := okWide_array Tryz.underlying34 hv
  have hC : Tryz.prog.cellsOf 34 = 2 := by kernel_rfl
  have hC1 : Tryz.prog.cellsOf 3 = 1 := by kernel_rfl
  obtain ⟨c0, c1, rfl⟩ := array2 (hsz.trans hC)
  obtain ⟨fuel, hf⟩ := h
  obtain ⟨xs, m, -, -, -, hl, hg⟩ := DataW.trod_array Tryz.underlying34 hf
  have h0 := hg 0 (by decide)
  have h1 := hg 1 (by decide)
  rw [hC1] at h0 h1
  rw [List.getElem?_eq_getElem (by omega)] at h0 h1
  simp [Value.cells] at h0 h1
  obtain ⟨x, hx, -, hx2⟩ := DataW.trod_int Tryz.underlying3 h0
  obtain ⟨y, hy, -, hy2⟩ := DataW.trod_int Tryz.underlying3 h1
  obtain rfl : c0 = .int .i64 x := by simpa using hx
  obtain rfl : c1 = .int .i64 y := by simpa using hy
  exact ⟨x, y, rfl, hx2, hy2⟩
set_option maxRecDepth 100000 in
theorem open_sm {H : Type} {enc : TypeId × Value → H} {W : World} {base b0 : Nat} {held : Bool} {r : Reach} {v : Value} {d : DataW H} {p : List MemPlace}
    (hv : Value.okWide Tryz.prog W r b0 68 v) (h : DataW.Trod enc Tryz.prog W base (fun _ => true) held 68 v d p) :
    ∃ x y : Int, v = .agg #[.int .i16 x, .int .u8 y] ∧ (Lit.int .i16 x).wf = true ∧ (Lit.int .u8 y).wf = true := by
  obtain ⟨v0, v1, y0, y1, n, rfl, -, -, h0, h1⟩ := open_agg2 Tryz.underlying68 (by kernel_rfl) (by kernel_rfl) hv h
  obtain ⟨x, hx, -, hx2⟩ := DataW.trod_int Tryz.underlying66 h0
  obtain ⟨y, hy, -, hy2⟩ := DataW.trod_int Tryz.underlying5 h1
  obtain rfl : v0 = .int .i16 x := by simpa using hx
  obtain rfl : v1 = .int .u8 y := by simpa using hy
  exact ⟨x, y, rfl, hx2, hy2⟩
end Go.Proofs.YtdgbplppabalgaaGreatDoor
