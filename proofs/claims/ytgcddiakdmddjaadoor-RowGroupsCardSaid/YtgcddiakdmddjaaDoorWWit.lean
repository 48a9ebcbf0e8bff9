/-
  What the rows' list gives, and a world that meets it.
-/
import Derived.Test.YtgcddiakdmddjaaDoorRows
import Derived.Test.YtgcddiakdmddjaaDoorWText
import Derived.ProofKit
import Derived.OpenShut
import Derived.LaidLaws
import Derived.Deep.DeepHandedRow
import Derived.Deep.DeepWitnessRowRef
import Derived.Lib.LaidTab
import Derived.Stop.LaidErr
namespace Go.Proofs.YtgcddiakdmddjaaDoor
open Go.ChangeShapes Go.WideShapes Go.ChangeAt Go.RowKit

theorem own : ownKnob Tryd.prog.godebug = none := by kernel_rfl
def litV : DataW Unit → Value
  | .lit (.int k n) => .int k n
  | _ => .nilIface
def flatV : DataW Unit → Array Value
  | .agg ps => (ps.map litV).toArray
  | _ => #[]
def put (cs : Array Value) : Obj → Obj
  | .cells _ t frozen => .cells cs t frozen
  | o => o
noncomputable def laidWorld (os : Os) : World :=
  let w0 := World.holding Tryd.prog os ⟨#[], #[], []⟩
  { w0 with heap := (((w0.heap.modify 2 (put (flatV Rows.laid_math_bits_deBruijn32tab))).modify 3 (put (flatV Rows.laid_math_bits_deBruijn64tab))).modify 0 (put (flatV Rows.laid_internal_strconv_uint64pow10))) }
theorem laid_met (os : Os) (args : Array Value) : laidMet Tryd.prog Rows.rowChecksRow.laid ((laidWorld os).forCall (fun _ _ => 0) ⟨#[], args, []⟩).memory :=
  laidMet_of_run' 8 (by kernel_rfl) (by kernel_rfl)

theorem gTab : Tryd.prog.globalNamed "internal/strconv.uint64pow10" = some 0 := by kernel_rfl
theorem gTabType : (Tryd.prog.globals[0]?).map (·.type) = some 105 := by kernel_rfl
theorem cellsTab : Tryd.prog.cellsOf 105 = 20 := by kernel_rfl
theorem cellsU64 : Tryd.prog.cellsOf 96 = 1 := by kernel_rfl
theorem std_of {W : World} (h : laidMetH Tryd.prog Rows.rowChecksRow.laid W) : Std W := by
  have h0 : laidMet Tryd.prog Rows.rowChecksRow.laid W := h
  exact Lib.tabIs_of_head (zs := Lib.pow10Tab) gTab gTabType Tryd.underlying105 Tryd.underlying96 cellsU64 cellsTab h0.tail.tail

/-- a slice of ints that came in -/
theorem Rd.of_open {w : World} {x : Addr} {l c : Nat} {zs : List Int} (hl : l ≤ c) (hm : c ≤ maxLen) (hz : zs.length = c) (hcell : ∀ i, i < zs.length → w.cell? (x.add i) = some (.int .i64 (zs.getD i 0))) (hw : ∀ n ∈ zs, (Lit.int .i64 n).wf = true) : Rd w (some x) l c (zs.take l) := by
  refine ⟨by rw [List.length_take]; omega, hl, hm, fun z h => bounds_i64 (hw z (List.mem_of_mem_take h)), ?_⟩
  by_cases h0 : l = 0
  · left; rw [h0]; rfl
  · right
    obtain ⟨b, off, spot⟩ := x
    have hc := hcell 0 (by omega)
    have hspot : spot = none := by simpa [Addr.add] using World.cell?_spot hc
    subst hspot
    refine ⟨b, off, rfl, ?_, fun i hi => ?_⟩
    · apply Nat.lt_of_not_le; intro hle
      rw [Lib.add_plain] at hc
      unfold World.cell? at hc
      simp only [Array.getElem?_eq_none hle] at hc; simp at hc
    · have hi2 : i < zs.length := by rw [List.length_take] at hi; omega
      have h := hcell i hi2
      rw [Lib.add_plain] at h
      rw [h, List.getElem_take, List.getD_eq_getElem?_getD, List.getElem?_eq_getElem hi2]; rfl
end Go.Proofs.YtgcddiakdmddjaaDoor
