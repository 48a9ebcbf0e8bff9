/-
  What the rows' list gives, and a world that meets it.
-/
import Derived.Test.YtjebddpapbopnaaGreatDoorRows
import Derived.Test.YtjebddpapbopnaaGreatDoorG1
import Derived.ProofKit
import Derived.OpenShut
import Derived.LaidLaws
import Derived.Deep.DeepHandedRow
import Derived.Deep.DeepWitnessRowRef
import Derived.Lib.LaidTab
namespace Go.Proofs.YtjebddpapbopnaaGreatDoor
open Go.ChangeShapes Go.WideShapes Go.ChangeAt Go.RowKit

theorem own : ownKnob Tryz.prog.godebug = none := by kernel_rfl

def litV : DataW Unit → Value
  | .lit (.int k n) => .int k n
  | _ => .nilIface
def flatV : DataW Unit → Array Value
  | .agg ps => (ps.map litV).toArray
  | _ => #[]
def flatV2 : DataW Unit → Array Value
  | .agg ps => (ps.flatMap fun | .agg qs => qs.map litV | _ => []).toArray
  | _ => #[]
def rngS : ByteArray := ⟨#[118, 97, 108, 117, 101, 32, 111, 117, 116, 32, 111, 102, 32, 114, 97, 110, 103, 101]⟩
def synS : ByteArray := ⟨#[105, 110, 118, 97, 108, 105, 100, 32, 115, 121, 110, 116, 97, 120]⟩
/-- So many blocks has the settled world. -/
noncomputable def low : Nat := (World.holding Tryz.prog default ⟨#[], #[], []⟩).heap.size
def put (cs : Array Value) : Obj → Obj
  | .cells _ t frozen => .cells cs t frozen
  | o => o
noncomputable def laidWorld (os : Os) : World :=
  let w0 := World.holding Tryz.prog os ⟨#[.cells #[.string synS] 168, .cells #[.string rngS] 168], #[], []⟩
  { w0 with heap := ((((((w0.heap.modify 8 (put (flatV Rows.laid_math_bits_deBruijn32tab))).modify 9 (put (flatV Rows.laid_math_bits_deBruijn64tab))).modify 3 (put (flatV Rows.laid_internal_strconv_uint64pow10))).modify 5 (put (flatV2 Rows.laid_unicode_utf8_acceptRanges))).modify 4 (put (flatV Rows.laid_unicode_utf8_first))).modify 1 (put #[.iface 166 (.pointer (some ⟨low, 0, none⟩))])).modify 2 (put #[.iface 166 (.pointer (some ⟨low + 1, 0, none⟩))]) }
theorem laid_met (os : Os) (args : Array Value) : laidMet Tryz.prog Rows.wholeChecksRow.laid ((laidWorld os).forCall (fun _ _ => 0) ⟨#[], args, []⟩).memory :=
  laidMet_of_run' 8 (by kernel_rfl) (by kernel_rfl)
end Go.Proofs.YtjebddpapbopnaaGreatDoor
