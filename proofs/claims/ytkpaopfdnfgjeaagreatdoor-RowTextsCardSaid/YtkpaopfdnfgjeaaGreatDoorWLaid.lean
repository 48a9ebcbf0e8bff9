/-
  What the rows' list gives, and a world that meets it (the seat of RowTexts and RowParses).
-/
import Derived.Test.YtkpaopfdnfgjeaaGreatDoorRows
import Derived.Test.YtkpaopfdnfgjeaaGreatDoorWAto
import Derived.ProofKit
import Derived.OpenShut
import Derived.LaidLaws
import Derived.Deep.DeepHandedRow
import Derived.Deep.DeepWitnessRowRef
import Derived.Lib.LaidTab
import Derived.Stop.LaidErr
namespace Go.Proofs.YtkpaopfdnfgjeaaGreatDoor
open Go.ChangeShapes Go.WideShapes Go.ChangeAt Go.RowKit

theorem own : ownKnob Tryz.prog.godebug = none := by kernel_rfl

def litV : DataW Unit → Value
  | .lit (.int k n) => .int k n
  | _ => .nilIface
def flatV : DataW Unit → Array Value
  | .agg ps => (ps.map litV).toArray
  | _ => #[]
def flatV2 : DataW Unit → Array Value
  | .agg ps => (ps.flatMap fun | .agg qs => qs.map litV | _ => []).toArray
  | _ => #[]
def rngS : ByteArray := ⟨#[118, 97, 108, 117, 101, 32, 111, 117, 116, 32, 111, 102, 32, 114, 97, 110, 103, 101]⟩
def synS : ByteArray := ⟨#[105, 110, 118, 97, 108, 105, 100, 32, 115, 121, 110, 116, 97, 120]⟩
/-- So many blocks has the settled world. -/
noncomputable def low : Nat := (World.holding Tryz.prog default ⟨#[], #[], []⟩).heap.size
def put (cs : Array Value) : Obj → Obj
  | .cells _ t frozen => .cells cs t frozen
  | o => o
noncomputable def laidWorld (os : Os) : World :=
  let w0 := World.holding Tryz.prog os ⟨#[.cells #[.string synS] 131, .cells #[.string rngS] 131], #[], []⟩
  { w0 with heap := ((((((w0.heap.modify 6 (put (flatV Rows.laid_math_bits_deBruijn32tab))).modify 7 (put (flatV Rows.laid_math_bits_deBruijn64tab))).modify 2 (put (flatV Rows.laid_internal_strconv_uint64pow10))).modify 5 (put (flatV2 Rows.laid_unicode_utf8_acceptRanges))).modify 4 (put (flatV Rows.laid_unicode_utf8_first))).modify 0 (put #[.iface 129 (.pointer (some ⟨low, 0, none⟩))])).modify 1 (put #[.iface 129 (.pointer (some ⟨low + 1, 0, none⟩))]) }
theorem laid_met (os : Os) (args : Array Value) : laidMet Tryz.prog Rows.rowTextsRow.laid ((laidWorld os).forCall (fun _ _ => 0) ⟨#[], args, []⟩).memory :=
  laidMet_of_run' 8 (by kernel_rfl) (by kernel_rfl)
theorem gTab : Tryz.prog.globalNamed "internal/strconv.uint64pow10" = some 2 := by kernel_rfl
theorem gTabType : (Tryz.prog.globals[2]?).map (·.type) = some 118 := by kernel_rfl
theorem cellsTab : Tryz.prog.cellsOf 118 = 20 := by kernel_rfl
theorem cellsU64 : Tryz.prog.cellsOf 99 = 1 := by kernel_rfl
theorem gER : Tryz.prog.globalNamed "strconv.ErrRange" = some 1 := by kernel_rfl
theorem gERType : (Tryz.prog.globals[1]?).map (·.type) = some 50 := by kernel_rfl
theorem cellsES : Tryz.prog.cellsOf 131 = 1 := by kernel_rfl
theorem cellsS : Tryz.prog.cellsOf 9 = 1 := by kernel_rfl
theorem star : "*" ++ "errors.errorString" = "*errors.errorString" := by decide
theorem rowES (u : TypeId) (h : Tryz.prog.typeName? 3 u = some "*errors.errorString") : u = 129 :=
  typeName_ptr_named (nm := "errors.errorString") (by rw [star]; kernel_rfl) (by kernel_rfl) (by decide) u (by rw [star]; exact h)

theorem std_of {W : World} (h : laidMetH Tryz.prog Rows.rowTextsRow.laid W) : StdP W := by
  have h0 : laidMet Tryz.prog Rows.rowTextsRow.laid W := h
  refine ⟨?_, ?_⟩
  · exact Lib.tabIs_of_head (zs := Lib.pow10Tab) gTab gTabType Tryz.underlying118 Tryz.underlying99 cellsU64 cellsTab h0.tail.tail
  · obtain ⟨a, s, hv, -, -, -⟩ := laid_sentinel h0.tail.tail.tail.tail gER gERType Tryz.underlying50 rowES Tryz.underlying129 Tryz.underlying131 rfl rfl Tryz.underlying9 cellsES cellsS
    exact ⟨_, _, hv⟩

/-- a slice of ints that came in -/
theorem Rd.of_open {w : World} {x : Addr} {l c : Nat} {zs : List Int} (hl : l ≤ c) (hm : c ≤ maxLen) (hz : zs.length = c) (hcell : ∀ i, i < zs.length → w.cell? (x.add i) = some (.int .i64 (zs.getD i 0))) (hw : ∀ n ∈ zs, (Lit.int .i64 n).wf = true) : Rd w (some x) l c (zs.take l) := by
  refine ⟨by rw [List.length_take]; omega, hl, hm, fun z h => bounds_i64 (hw z (List.mem_of_mem_take h)), ?_⟩
  by_cases h0 : l = 0
  · left; rw [h0]; rfl
  · right
    obtain ⟨b, off, spot⟩ := x
    have hc := hcell 0 (by omega)
    have hspot : spot = none := by simpa [Addr.add] using World.cell?_spot hc
    subst hspot
    refine ⟨b, off, rfl, ?_, fun i hi => ?_⟩
    · apply Nat.lt_of_not_le; intro hle
      rw [Lib.add_plain] at hc
      unfold World.cell? at hc
      simp only [Array.getElem?_eq_none hle] at hc; simp at hc
    · have hi2 : i < zs.length := by rw [List.length_take] at hi; omega
      have h := hcell i hi2
      rw [Lib.add_plain] at h
      rw [h, List.getElem_take, List.getD_eq_getElem?_getD, List.getElem?_eq_getElem hi2]; rfl
end Go.Proofs.YtkpaopfdnfgjeaaGreatDoor
