/-
  From the rows' list to what the contracts ask of the world.
-/
import Derived.Test.YtaghhkninggcnaaDoorWit
import Derived.Stop.LaidErr
namespace Go.Proofs.YtaghhkninggcnaaDoor
open Go.ChangeShapes Go.WideShapes Go.ChangeAt Go.RowKit

theorem gTab : Tryd.prog.globalNamed "internal/strconv.uint64pow10" = some 1 := by kernel_rfl
theorem gTabType : (Tryd.prog.globals[1]?).map (·.type) = some 115 := by kernel_rfl
theorem cellsTab : Tryd.prog.cellsOf 115 = 20 := by kernel_rfl
theorem cellsU64 : Tryd.prog.cellsOf 31 = 1 := by kernel_rfl
theorem gER : Tryd.prog.globalNamed "strconv.ErrRange" = some 3 := by kernel_rfl
theorem gERType : (Tryd.prog.globals[3]?).map (·.type) = some 55 := by kernel_rfl
theorem cellsES : Tryd.prog.cellsOf 128 = 1 := by kernel_rfl
theorem cellsS : Tryd.prog.cellsOf 9 = 1 := by kernel_rfl
theorem star : "*" ++ "errors.errorString" = "*errors.errorString" := by decide
theorem rowES (u : TypeId) (h : Tryd.prog.typeName? 3 u = some "*errors.errorString") : u = 126 :=
  typeName_ptr_named (nm := "errors.errorString") (by rw [star]; kernel_rfl) (by kernel_rfl) (by decide) u (by rw [star]; exact h)

theorem std_of {W : World} (h : laidMetH Tryd.prog Rows.decimalFormsRow.laid W) : Std W := by
  have h0 : laidMet Tryd.prog Rows.decimalFormsRow.laid W := h
  refine ⟨?_, ?_⟩
  · exact Lib.tabIs_of_head (zs := Lib.pow10Tab) gTab gTabType Tryd.underlying115 Tryd.underlying31 cellsU64 cellsTab h0.tail.tail
  · obtain ⟨a, s, hv, -, -, -⟩ := laid_sentinel h0.tail.tail.tail.tail gER gERType Tryd.underlying55 rowES Tryd.underlying126 Tryd.underlying128 rfl rfl Tryd.underlying9 cellsES cellsS
    exact ⟨_, _, hv⟩
end Go.Proofs.YtaghhkninggcnaaDoor
