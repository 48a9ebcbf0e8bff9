/-
  The laws of package whole: three numbers in boxes.
-/
import Derived.Test.YtjebddpapbopnaaGreatDoorZBox
namespace Go.Proofs.YtjebddpapbopnaaGreatDoor
open Go.RowKit

/-- three boxes -/
structure Bx3 (w W : World) (b1 : Bool) (a1 : Option Addr) (l1 c1 : Nat) (b2 : Bool) (a2 : Option Addr) (l2 c2 : Nat) (b3 : Bool) (a3 : Option Addr) (l3 c3 : Nat) : Prop where
  below : Below w.heap.size w W
  one : Bx W w.heap.size b1 a1 l1 c1
  two : Bx W (w.heap.size + 1) b2 a2 l2 c2
  three : Bx W (w.heap.size + 1 + 1) b3 a3 l3 c3
theorem bx3 (w : World) (b1 : Bool) (a1 : Option Addr) (l1 c1 : Nat) (b2 : Bool) (a2 : Option Addr) (l2 c2 : Nat) (b3 : Bool) (a3 : Option Addr) (l3 c3 : Nat) : Bx3 w (((w.alloc (numO b1 a1 l1 c1)).alloc (numO b2 a2 l2 c2)).alloc (numO b3 a3 l3 c3)) b1 a1 l1 c1 b2 a2 l2 c2 b3 a3 l3 c3 := by
  have h := bx2 w b1 a1 l1 c1 b2 a2 l2 c2
  have hn := Bx.new ((w.alloc (numO b1 a1 l1 c1)).alloc (numO b2 a2 l2 c2)) b3 a3 l3 c3
  rw [alloc_size, alloc_size] at hn
  exact ⟨h.below.alloc (by rw [alloc_size, alloc_size]; omega) _, h.one.alloc _, h.two.alloc _, hn⟩
theorem Bx3.to {w W W' : World} {b1 : Bool} {a1 : Option Addr} {l1 c1 : Nat} {b2 : Bool} {a2 : Option Addr} {l2 c2 : Nat} {b3 : Bool} {a3 : Option Addr} {l3 c3 : Nat} (h : Bx3 w W b1 a1 l1 c1 b2 a2 l2 c2 b3 a3 l3 c3) (hb : Below W.heap.size W W') : Bx3 w W' b1 a1 l1 c1 b2 a2 l2 c2 b3 a3 l3 c3 :=
  ⟨h.below.trans (hb.mono h.below.size), h.one.below hb, h.two.below hb, h.three.below hb⟩
theorem make3 {b1 : Bool} {a1 : Option Addr} {l1 c1 : Nat} {z1 : List Int} {b2 : Bool} {a2 : Option Addr} {l2 c2 : Nat} {z2 : List Int} {b3 : Bool} {a3 : Option Addr} {l3 c3 : Nat} {z3 : List Int} {w : World} (h1 : IsRow .u8 w a1 l1 c1 z1) (h2 : IsRow .u8 w a2 l2 c2 z2) (h3 : IsRow .u8 w a3 l3 c3 z3) (N : Nat) (hN : N ≤ 100) (v : Value) (wx : World)
    (hv : v = .agg #[.bool b1, .slice a1 l1 c1] ∨ v = .agg #[.bool b2, .slice a2 l2 c2] ∨ v = .agg #[.bool b3, .slice a3 l3 c3]) (hx : Bx3 w wx b1 a1 l1 c1 b2 a2 l2 c2 b3 a3 l3 c3) :
    Calls Tryz.prog 20 #[v, .int .i64 (N : Int)] wx fun e w' => (∃ z : Int, e = .returned (.string (zS z)) ∧ z.natAbs < 10 ^ N) ∧ Bx3 w w' b1 a1 l1 c1 b2 a2 l2 c2 b3 a3 l3 c3 := by
  rcases hv with rfl | rfl | rfl
  · exact (makeZ_any b1 a1 l1 c1 z1 N wx (h1.below hx.below) hN).mono fun _ _ h => ⟨h.1, hx.to h.2⟩
  · exact (makeZ_any b2 a2 l2 c2 z2 N wx (h2.below hx.below) hN).mono fun _ _ h => ⟨h.1, hx.to h.2⟩
  · exact (makeZ_any b3 a3 l3 c3 z3 N wx (h3.below hx.below) hN).mono fun _ _ h => ⟨h.1, hx.to h.2⟩
end Go.Proofs.YtjebddpapbopnaaGreatDoor
