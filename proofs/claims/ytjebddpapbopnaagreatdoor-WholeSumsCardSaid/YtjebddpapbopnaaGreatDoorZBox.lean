/-
  The laws of package whole: numbers in boxes.
-/
import Derived.Test.YtjebddpapbopnaaGreatDoorZKnown
import Derived.Test.YtjebddpapbopnaaGreatDoorG4
import Derived.Deep.RegionWith
import Derived.Deep.Cut
import Derived.Deep.DeepCutAuto
namespace Go.Proofs.YtjebddpapbopnaaGreatDoor
open Go.RowKit

abbrev numO (b : Bool) (a : Option Addr) (l c : Nat) : Obj := .cells #[.bool b, .slice a l c] 33
/-- the box of a number -/
structure Bx (W : World) (g : Nat) (b : Bool) (a : Option Addr) (l c : Nat) : Prop where
  lt : g < W.heap.size
  neg : W.cell? ⟨g, 0, none⟩ = some (.bool b)
  dig : W.cell? ⟨g, 1, none⟩ = some (.slice a l c)
theorem Bx.below {W W' : World} {g : Nat} {b : Bool} {a : Option Addr} {l c : Nat} (h : Bx W g b a l c) (hb : Below W.heap.size W W') : Bx W' g b a l c :=
  ⟨Nat.lt_of_lt_of_le h.lt hb.size, by rw [hb.cell (p := ⟨g, 0, none⟩) h.lt]; exact h.neg, by rw [hb.cell (p := ⟨g, 1, none⟩) h.lt]; exact h.dig⟩
theorem Bx.new (w : World) (b : Bool) (a : Option Addr) (l c : Nat) : Bx (w.alloc (numO b a l c)) w.heap.size b a l c :=
  ⟨by show _ < (w.heap.push _).size; rw [Array.size_push]; omega, by rw [World.cell?_alloc_new]; rfl, by rw [World.cell?_alloc_new]; rfl⟩
theorem alloc_size (w : World) (o : Obj) : (w.alloc o).heap.size = w.heap.size + 1 := by show (w.heap.push o).size = _; exact Array.size_push _
theorem Bx.alloc {W : World} {g : Nat} {b : Bool} {a : Option Addr} {l c : Nat} (h : Bx W g b a l c) (o : Obj) : Bx (W.alloc o) g b a l c := h.below ((Below.refl _ _).alloc (Nat.le_refl _) o)
/-- two boxes -/
structure Bx2 (w W : World) (b1 : Bool) (a1 : Option Addr) (l1 c1 : Nat) (b2 : Bool) (a2 : Option Addr) (l2 c2 : Nat) : Prop where
  below : Below w.heap.size w W
  one : Bx W w.heap.size b1 a1 l1 c1
  two : Bx W (w.heap.size + 1) b2 a2 l2 c2
theorem bx2 (w : World) (b1 : Bool) (a1 : Option Addr) (l1 c1 : Nat) (b2 : Bool) (a2 : Option Addr) (l2 c2 : Nat) : Bx2 w ((w.alloc (numO b1 a1 l1 c1)).alloc (numO b2 a2 l2 c2)) b1 a1 l1 c1 b2 a2 l2 c2 := by
  have h := Bx.new (w.alloc (numO b1 a1 l1 c1)) b2 a2 l2 c2
  rw [alloc_size] at h
  exact ⟨((Below.refl _ w).alloc (Nat.le_refl _) _).alloc (by rw [alloc_size]; omega) _, (Bx.new w b1 a1 l1 c1).alloc _, h⟩
theorem Bx2.to {w W W' : World} {b1 : Bool} {a1 : Option Addr} {l1 c1 : Nat} {b2 : Bool} {a2 : Option Addr} {l2 c2 : Nat} (h : Bx2 w W b1 a1 l1 c1 b2 a2 l2 c2) (hb : Below W.heap.size W W') : Bx2 w W' b1 a1 l1 c1 b2 a2 l2 c2 :=
  ⟨h.below.trans (hb.mono h.below.size), h.one.below hb, h.two.below hb⟩
theorem make2 {b1 : Bool} {a1 : Option Addr} {l1 c1 : Nat} {z1 : List Int} {b2 : Bool} {a2 : Option Addr} {l2 c2 : Nat} {z2 : List Int} {w : World} (h1 : IsRow .u8 w a1 l1 c1 z1) (h2 : IsRow .u8 w a2 l2 c2 z2) (N : Nat) (hN : N ≤ 100) (v : Value) (wx : World)
    (hv : v = .agg #[.bool b1, .slice a1 l1 c1] ∨ v = .agg #[.bool b2, .slice a2 l2 c2]) (hx : Bx2 w wx b1 a1 l1 c1 b2 a2 l2 c2) :
    Calls Tryz.prog 20 #[v, .int .i64 (N : Int)] wx fun e w' => (∃ z : Int, e = .returned (.string (zS z)) ∧ z.natAbs < 10 ^ N) ∧ Bx2 w w' b1 a1 l1 c1 b2 a2 l2 c2 := by
  rcases hv with rfl | rfl
  · exact (makeZ_any b1 a1 l1 c1 z1 N wx (h1.below hx.below) hN).mono fun _ _ h => ⟨h.1, hx.to h.2⟩
  · exact (makeZ_any b2 a2 l2 c2 z2 N wx (h2.below hx.below) hN).mono fun _ _ h => ⟨h.1, hx.to h.2⟩
theorem pow_size {z : Int} {N : Nat} (h : z.natAbs < 10 ^ N) (h0 : 0 < N) : (str z.natAbs).size ≤ N := str_big h h0
end Go.Proofs.YtjebddpapbopnaaGreatDoor
