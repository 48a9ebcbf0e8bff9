/-
  From the rows' list to what the contracts ask of the world.
-/
import Derived.Test.YtfhmdlpjeiockaaDoorWit
import Derived.Stop.LaidErr
namespace Go.Proofs.YtfhmdlpjeiockaaDoor
open Go.ChangeShapes Go.WideShapes Go.ChangeAt Go.RowKit

theorem gTab : Tryd.prog.globalNamed "internal/strconv.uint64pow10" = some 4 := by kernel_rfl
theorem gTabType : (Tryd.prog.globals[4]?).map (·.type) = some 113 := by kernel_rfl
theorem cellsTab : Tryd.prog.cellsOf 113 = 20 := by kernel_rfl
theorem cellsU64 : Tryd.prog.cellsOf 37 = 1 := by kernel_rfl
theorem gER : Tryd.prog.globalNamed "strconv.ErrRange" = some 3 := by kernel_rfl
theorem gERType : (Tryd.prog.globals[3]?).map (·.type) = some 60 := by kernel_rfl
theorem cellsES : Tryd.prog.cellsOf 119 = 1 := by kernel_rfl
theorem cellsS : Tryd.prog.cellsOf 9 = 1 := by kernel_rfl
theorem star : "*" ++ "errors.errorString" = "*errors.errorString" := by decide
theorem rowES (u : TypeId) (h : Tryd.prog.typeName? 3 u = some "*errors.errorString") : u = 117 :=
  typeName_ptr_named (nm := "errors.errorString") (by rw [star]; kernel_rfl) (by kernel_rfl) (by decide) u (by rw [star]; exact h)

theorem std_of {W : World} (h : laidMetH Tryd.prog Rows.decimalDividesRow.laid W) : Std W := by
  have h0 : laidMet Tryd.prog Rows.decimalDividesRow.laid W := h
  refine ⟨?_, ?_⟩
  · exact Lib.tabIs_of_head (zs := Lib.pow10Tab) gTab gTabType Tryd.underlying113 Tryd.underlying37 cellsU64 cellsTab h0.tail.tail
  · obtain ⟨a, s, hv, -, -, -⟩ := laid_sentinel h0.tail.tail.tail.tail gER gERType Tryd.underlying60 rowES Tryd.underlying117 Tryd.underlying119 rfl rfl Tryd.underlying9 cellsES cellsS
    exact ⟨_, _, hv⟩
end Go.Proofs.YtfhmdlpjeiockaaDoor
