/-
  Texts of one seat, joined: Wit Laid YOpen YLaid YTimes.
-/
import Derived.Test.YtgkfdgdlmpggpaaGreatDoorRows
import Derived.Test.YtgkfdgdlmpggpaaGreatDoorJ2
import Derived.ProofKit
import Derived.OpenShut
import Derived.LaidLaws
import Derived.Deep.DeepHandedRow
import Derived.Deep.DeepWitnessRowRef
import Derived.Lib.LaidTab
import Derived.Stop.LaidErr
import Derived.Test.YtgkfdgdlmpggpaaGreatDoorJ6
import Derived.Lib.SmallJoins
import Derived.ChangeSame
import Derived.ChangeMaps5
import Derived.Test.YtgkfdgdlmpggpaaGreatDoorJ24
import Derived.Test.YtgkfdgdlmpggpaaGreatDoorJ9
namespace Go.Proofs.YtgkfdgdlmpggpaaGreatDoor
open Go.ChangeShapes Go.WideShapes Go.ChangeAt Go.RowKit

theorem own : ownKnob Tryz.prog.godebug = none := by kernel_rfl

def litV : DataW Unit → Value
  | .lit (.int k n) => .int k n
  | _ => .nilIface
def flatV : DataW Unit → Array Value
  | .agg ps => (ps.map litV).toArray
  | _ => #[]
def flatV2 : DataW Unit → Array Value
  | .agg ps => (ps.flatMap fun | .agg qs => qs.map litV | _ => []).toArray
  | _ => #[]
def rngS : ByteArray := ⟨#[118, 97, 108, 117, 101, 32, 111, 117, 116, 32, 111, 102, 32, 114, 97, 110, 103, 101]⟩
def synS : ByteArray := ⟨#[105, 110, 118, 97, 108, 105, 100, 32, 115, 121, 110, 116, 97, 120]⟩
/-- So many blocks has the settled world. -/
noncomputable def low : Nat := (World.holding Tryz.prog default ⟨#[], #[], []⟩).heap.size
def put (cs : Array Value) : Obj → Obj
  | .cells _ t frozen => .cells cs t frozen
  | o => o
noncomputable def laidWorld (os : Os) : World :=
  let w0 := World.holding Tryz.prog os ⟨#[.cells #[.string synS] 225, .cells #[.string rngS] 225], #[], []⟩
  { w0 with heap := ((((((w0.heap.modify 8 (put (flatV Rows.laid_math_bits_deBruijn32tab))).modify 9 (put (flatV Rows.laid_math_bits_deBruijn64tab))).modify 3 (put (flatV Rows.laid_internal_strconv_uint64pow10))).modify 7 (put (flatV2 Rows.laid_unicode_utf8_acceptRanges))).modify 6 (put (flatV Rows.laid_unicode_utf8_first))).modify 0 (put #[.iface 223 (.pointer (some ⟨low, 0, none⟩))])).modify 1 (put #[.iface 223 (.pointer (some ⟨low + 1, 0, none⟩))]) }
theorem laid_met (os : Os) (args : Array Value) : laidMet Tryz.prog Rows.fractionChecksRow.laid ((laidWorld os).forCall (fun _ _ => 0) ⟨#[], args, []⟩).memory :=
  laidMet_of_run' 8 (by kernel_rfl) (by kernel_rfl)
end Go.Proofs.YtgkfdgdlmpggpaaGreatDoor

namespace Go.Proofs.YtgkfdgdlmpggpaaGreatDoor
open Go.ChangeShapes Go.WideShapes Go.ChangeAt Go.RowKit

theorem gTab : Tryz.prog.globalNamed "internal/strconv.uint64pow10" = some 3 := by kernel_rfl
theorem gTabType : (Tryz.prog.globals[3]?).map (·.type) = some 219 := by kernel_rfl
theorem cellsTab : Tryz.prog.cellsOf 219 = 20 := by kernel_rfl
theorem cellsU64 : Tryz.prog.cellsOf 135 = 1 := by kernel_rfl
theorem gER : Tryz.prog.globalNamed "strconv.ErrRange" = some 1 := by kernel_rfl
theorem gERType : (Tryz.prog.globals[1]?).map (·.type) = some 88 := by kernel_rfl
theorem cellsES : Tryz.prog.cellsOf 225 = 1 := by kernel_rfl
theorem cellsS : Tryz.prog.cellsOf 9 = 1 := by kernel_rfl
theorem star : "*" ++ "errors.errorString" = "*errors.errorString" := by decide
theorem rowES (u : TypeId) (h : Tryz.prog.typeName? 3 u = some "*errors.errorString") : u = 223 :=
  typeName_ptr_named (nm := "errors.errorString") (by rw [star]; kernel_rfl) (by kernel_rfl) (by decide) u (by rw [star]; exact h)

theorem std_of {W : World} (h : laidMetH Tryz.prog Rows.fractionChecksRow.laid W) : Std W := by
  have h0 : laidMet Tryz.prog Rows.fractionChecksRow.laid W := h
  refine ⟨?_, ?_⟩
  · exact Lib.tabIs_of_head (zs := Lib.pow10Tab) gTab gTabType Tryz.underlying219 Tryz.underlying135 cellsU64 cellsTab h0.tail.tail
  · obtain ⟨a, s, hv, -, -, -⟩ := laid_sentinel h0.tail.tail.tail.tail gER gERType Tryz.underlying88 rowES Tryz.underlying223 Tryz.underlying225 rfl rfl Tryz.underlying9 cellsES cellsS
    exact ⟨_, _, hv⟩
end Go.Proofs.YtgkfdgdlmpggpaaGreatDoor

namespace Go.Proofs.YtgkfdgdlmpggpaaGreatDoor
open Go.ChangeShapes Go.WideShapes Go.ChangeAt Go.RowKit Go.Joins
set_option maxRecDepth 100000 in
theorem open_rat {H : Type} {enc : TypeId × Value → H} {W : World} {base b0 : Nat} {held : Bool} {r : Reach} {v : Value} {d : DataW H} {p : List MemPlace}
    (hv : Value.okWide Tryz.prog W r b0 24 v) (h : DataW.Trod enc Tryz.prog W base (fun _ => true) held 24 v d p) :
    ∃ s t : ByteArray, v = .agg #[.string s, .string t] ∧ s.size ≤ 9223372036854775807 ∧ t.size ≤ 9223372036854775807 := by
  obtain ⟨v0, v1, y0, y1, n, rfl, -, -, h0, h1⟩ := open_agg2 Tryz.underlying24 (by kernel_rfl) (by kernel_rfl) hv h
  obtain ⟨s, hs, -, hs2⟩ := DataW.trod_string Tryz.underlying22 h0
  obtain ⟨t, ht, -, ht2⟩ := DataW.trod_string Tryz.underlying22 h1
  obtain rfl : v0 = .string s := by simpa using hs
  obtain rfl : v1 = .string t := by simpa using ht
  exact ⟨s, t, rfl, hs2, ht2⟩
end Go.Proofs.YtgkfdgdlmpggpaaGreatDoor

namespace Go.Proofs.YtgkfdgdlmpggpaaGreatDoor
open Go.RowKit Go.ChangeShapes Go.WideShapes Go.ChangeAt

theorem cell_lt {w : World} {g o : Nat} {v : Value} (h : w.cell? ⟨g, o, none⟩ = some v) : g < w.heap.size := by
  apply Nat.lt_of_not_le; intro hle
  unfold World.cell? at h
  simp only [Array.getElem?_eq_none hle] at h; simp at h
theorem stf_of {W : World} (h : laidMetH Tryz.prog Rows.fractionChecksRow.laid W) (hsh : W.ShapedOpen Tryz.prog) : Stf W := by
  obtain ⟨m, hm⟩ := Tryz.laysM145.s1_3 W hsh
  have hm2 : W.cell? ⟨2, 0, none⟩ = some (.int .i64 m) := hm
  exact ⟨std_of h, ⟨m, hm2⟩, cell_lt hm2⟩
end Go.Proofs.YtgkfdgdlmpggpaaGreatDoor

namespace Go.Proofs.YtgkfdgdlmpggpaaGreatDoor
open Go.RowKit

set_option maxHeartbeats 400000 in
theorem magF_any (z : Int) (w : World) (h1 : -9223372036854775807 ≤ z) (h2 : z ≤ 9223372036854775807) :
    Calls Tryz.prog 143 #[.int .i64 z] w fun e w' => e = .returned (.int .u64 (z.natAbs : Int)) ∧ w = w' := by
  have hm : max z (-z) = (z.natAbs : Int) := by omega
  have hw := IntWalk.i64_in (-z) ⟨by omega, by omega⟩
  have hu : IntKind.u64.wrap (z.natAbs : Int) = (z.natAbs : Int) := by rw [IntKind.wrap_u64]; omega
  obtain ⟨n, hn⟩ : ∃ n : Nat, n = z.natAbs := ⟨_, rfl⟩
  rw [← hn] at hm hu ⊢
  clear hn
  go_enter Tryz.func143, Tryz.ntmps143
  go_wp2_with fail
  go_ret
  exact ⟨rfl, rfl⟩
def fitF (x y : Int) : Bool := decide (x.natAbs * y.natAbs < 4611686018427387904)
set_option maxHeartbeats 1600000 in
theorem timesF_any (x y : Int) (w : World) (h1 : -1000000000000000000 < x) (h2 : x < 1000000000000000000) (h3 : -1000000000000000000 < y) (h4 : y < 1000000000000000000) :
    Calls Tryz.prog 134 #[.int .i64 x, .int .i64 y] w fun e w' => (∃ v : Int, e = .returned (.tuple #[.int .i64 v, .bool (fitF x y)]) ∧ (fitF x y = true → v = x * y)) ∧ w = w' := by
  have HX := Lib.hid (fun wx => magF_any x wx (by omega) (by omega))
  have HY := Lib.hid (fun wx => magF_any y wx (by omega) (by omega))
  obtain ⟨a, ha⟩ : ∃ a : Nat, a = x.natAbs := ⟨_, rfl⟩
  obtain ⟨b, hb⟩ : ∃ b : Nat, b = y.natAbs := ⟨_, rfl⟩
  have hxy := mul_abs x y
  rw [← ha] at HX hxy
  rw [← hb] at HY hxy
  have HM := Lib.hid (fun wx => Tryz.bits_Mul64 a b (by omega) (by omega) wx)
  have hf : fitF x y = decide (a * b < 4611686018427387904) := by unfold fitF; rw [ha, hb]
  obtain ⟨P, hP⟩ : ∃ P, P = a * b := ⟨_, rfl⟩
  rw [← hP] at HM hxy hf
  obtain ⟨V, hV⟩ : ∃ V, V = IntKind.i64.wrap (x * y) := ⟨_, rfl⟩
  have HV := Lib.hid (show P ≤ 9223372036854775807 → V = x * y from fun h => by rw [hV]; exact IntWalk.i64_in _ ⟨by omega, by omega⟩)
  obtain ⟨F, hF⟩ : ∃ F, F = fitF x y := ⟨_, rfl⟩
  rw [← hF] at hf ⊢
  obtain ⟨H, hH⟩ : ∃ H : Nat, H = P / 18446744073709551616 := ⟨_, rfl⟩
  obtain ⟨L, hL⟩ : ∃ L : Nat, L = P % 18446744073709551616 := ⟨_, rfl⟩
  rw [← hH, ← hL] at HM
  have hVs := hV.symm
  by_cases hz : H = 0
  · have hzb : ((H : Int) == 0) = true := by rw [beq_iff_eq]; omega
    by_cases hl : L < 4611686018427387904
    · have hlb : decide ((L : Int) < 4611686018427387904) = true := decide_eq_true (by omega)
      have HF := Lib.hid (show F = true by rw [hf]; exact decide_eq_true (by omega))
      have HV2 := Lib.hid (HV.out (by omega))
      clear hz hl hf hH hL hP hF hxy ha hb hV HV
      go_enter Tryz.func134, Tryz.ntmps134
      go_wp2_with fail
      refine (HX.out _).mono ?_
      rintro e w1 ⟨rfl, rfl⟩
      go_wp2_with fail
      refine (HY.out _).mono ?_
      rintro e w1 ⟨rfl, rfl⟩
      go_wp2_with fail
      refine (HM.out _).mono ?_
      rintro e w1 ⟨rfl, hw1⟩
      obtain rfl := hw1
      go_wp2_with fail
      go_ret2
      exact ⟨⟨V, by rw [HF.out]; rfl, fun _ => HV2.out⟩, rfl⟩
    · have hlb : decide ((L : Int) < 4611686018427387904) = false := decide_eq_false (by omega)
      have HF := Lib.hid (show F = false by rw [hf]; exact decide_eq_false (by omega))
      clear hz hl hf hH hL hP hF hxy ha hb hV HV
      go_enter Tryz.func134, Tryz.ntmps134
      go_wp2_with fail
      refine (HX.out _).mono ?_
      rintro e w1 ⟨rfl, rfl⟩
      go_wp2_with fail
      refine (HY.out _).mono ?_
      rintro e w1 ⟨rfl, rfl⟩
      go_wp2_with fail
      refine (HM.out _).mono ?_
      rintro e w1 ⟨rfl, hw1⟩
      obtain rfl := hw1
      go_wp2_with fail
      go_ret2
      exact ⟨⟨V, by rw [HF.out]; rfl, fun h => by rw [HF.out] at h; cases h⟩, rfl⟩
  · have hzb : ((H : Int) == 0) = false := by rw [beq_eq_false_iff_ne]; omega
    have HF := Lib.hid (show F = false by rw [hf]; exact decide_eq_false (by omega))
    clear hz hf hH hL hP hF hxy ha hb hV HV
    go_enter Tryz.func134, Tryz.ntmps134
    go_wp2_with fail
    refine (HX.out _).mono ?_
    rintro e w1 ⟨rfl, rfl⟩
    go_wp2_with fail
    refine (HY.out _).mono ?_
    rintro e w1 ⟨rfl, rfl⟩
    go_wp2_with fail
    refine (HM.out _).mono ?_
    rintro e w1 ⟨rfl, hw1⟩
    obtain rfl := hw1
    go_wp2_with fail
    go_ret2
    exact ⟨⟨V, by rw [HF.out]; rfl, fun h => by rw [HF.out] at h; cases h⟩, rfl⟩
end Go.Proofs.YtgkfdgdlmpggpaaGreatDoor
