/-
  strconv.Atoi of a canonical word; the iterator of words.
-/
import Derived.Test.YtkpaopfdnfgjeaaGreatDoorShelf
import Derived.Test.YtkpaopfdnfgjeaaGreatDoorWInt
import Derived.Test.YtkpaopfdnfgjeaaGreatDoorWText
import Derived.Lib.AtoiErrMem
namespace Go.Proofs.YtkpaopfdnfgjeaaGreatDoor
open Go.RowKit

/-- what the contracts ask of the world: the table of powers, and that the error ErrRange is one -/
def StdP (w : World) : Prop := Std w ∧ ∃ tp p, w.var? Tryz.prog "strconv.ErrRange" = some #[.iface tp p]
theorem StdP.below {w w' : World} (h : StdP w) (hb : Below w.heap.size w w') : StdP w' := ⟨h.1.below hb, let ⟨tp, p, e⟩ := h.2; ⟨tp, p, var_below e hb⟩⟩
theorem atoi_can (s : ByteArray) (w : World) (hw : StdP w) (hs : s.size ≤ 100000) (hc : canB s.data.toList = true) :
    Calls Tryz.prog 21 #[.string s] w fun e w' => ∃ v, e = .returned (.tuple #[.int .i64 (atoV s.data.toList), v]) ∧ Below w.heap.size w w' := by
  rcases ato_can hc with h | ⟨h, h2⟩
  · refine (Tryz.strconv_Atoi_ok s (by omega) _ h w).mono ?_
    rintro e w' ⟨rfl, rfl | ⟨t, rfl⟩⟩
    · exact ⟨_, rfl, Below.refl _ _⟩
    · exact ⟨_, rfl, Lib.bytesWorld_below _ _ _⟩
  · obtain ⟨tp, p, hv⟩ := hw.2
    refine (Tryz.strconv_Atoi_range_var s (by omega) h tp p w hv).mono ?_
    rintro e w' ⟨N, rfl, -, -, hb⟩
    rw [← h2]
    exact ⟨_, rfl, hb⟩
end Go.Proofs.YtkpaopfdnfgjeaaGreatDoor
