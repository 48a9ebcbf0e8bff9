/-
  From the rows' list to what the contracts ask of the world.
-/
import Derived.Test.YtjebddpapbopnaaGreatDoorWit
import Derived.Stop.LaidErr
namespace Go.Proofs.YtjebddpapbopnaaGreatDoor
open Go.ChangeShapes Go.WideShapes Go.ChangeAt Go.RowKit

theorem gTab : Tryz.prog.globalNamed "internal/strconv.uint64pow10" = some 3 := by kernel_rfl
theorem gTabType : (Tryz.prog.globals[3]?).map (·.type) = some 155 := by kernel_rfl
theorem cellsTab : Tryz.prog.cellsOf 155 = 20 := by kernel_rfl
theorem cellsU64 : Tryz.prog.cellsOf 61 = 1 := by kernel_rfl
theorem gER : Tryz.prog.globalNamed "strconv.ErrRange" = some 2 := by kernel_rfl
theorem gERType : (Tryz.prog.globals[2]?).map (·.type) = some 83 := by kernel_rfl
theorem cellsES : Tryz.prog.cellsOf 168 = 1 := by kernel_rfl
theorem cellsS : Tryz.prog.cellsOf 9 = 1 := by kernel_rfl
theorem star : "*" ++ "errors.errorString" = "*errors.errorString" := by decide
theorem rowES (u : TypeId) (h : Tryz.prog.typeName? 3 u = some "*errors.errorString") : u = 166 :=
  typeName_ptr_named (nm := "errors.errorString") (by rw [star]; kernel_rfl) (by kernel_rfl) (by decide) u (by rw [star]; exact h)

theorem std_of {W : World} (h : laidMetH Tryz.prog Rows.wholeChecksRow.laid W) : Std W := by
  have h0 : laidMet Tryz.prog Rows.wholeChecksRow.laid W := h
  refine ⟨?_, ?_⟩
  · exact Lib.tabIs_of_head (zs := Lib.pow10Tab) gTab gTabType Tryz.underlying155 Tryz.underlying61 cellsU64 cellsTab h0.tail.tail
  · obtain ⟨a, s, hv, -, -, -⟩ := laid_sentinel h0.tail.tail.tail.tail gER gERType Tryz.underlying83 rowES Tryz.underlying166 Tryz.underlying168 rfl rfl Tryz.underlying9 cellsES cellsS
    exact ⟨_, _, hv⟩
end Go.Proofs.YtjebddpapbopnaaGreatDoor
