/-
  Texts of one seat, joined: YMkS.
-/
import Derived.Test.YtdgbplppabalgaaGreatDoorL34
namespace Go.Proofs.YtdgbplppabalgaaGreatDoor
open Go.RowKit

/-- the box of a described fraction -/
structure BxS (W : World) (g : Nat) (x y : Int) : Prop where
  lt : g < W.heap.size
  c0 : W.cell? ⟨g, 0, none⟩ = some (.int .i16 x)
  c1 : W.cell? ⟨g, 1, none⟩ = some (.int .u8 y)
theorem BxS.below {W W' : World} {g : Nat} {x y : Int} (h : BxS W g x y) (hb : Below W.heap.size W W') : BxS W' g x y :=
  ⟨Nat.lt_of_lt_of_le h.lt hb.size, by rw [hb.cell (p := ⟨g, 0, none⟩) h.lt]; exact h.c0, by rw [hb.cell (p := ⟨g, 1, none⟩) h.lt]; exact h.c1⟩
theorem BxS.new (w : World) (x y : Int) : BxS (w.alloc (.cells #[.int .i16 x, .int .u8 y] 68)) w.heap.size x y :=
  ⟨by rw [push_size]; omega, by rw [World.cell?_alloc_new]; rfl, by rw [World.cell?_alloc_new]; rfl⟩
/-- the fraction of a description -/
def smP (x y : Int) : Int × Nat := lo x (1 + y).natAbs
theorem smP_sz {x y : Int} (h1 : -32768 ≤ x) (h2 : x ≤ 32767) (h3 : 0 ≤ y) (h4 : y ≤ 255) : Sz 5 (smP x y) ∧ (smP x y).1.natAbs ≤ 32768 ∧ (smP x y).2 ≤ 256 := by
  refine ⟨Sz.lo (by omega) (str_big (n := 5) (by omega) (by decide)) (str_big (n := 5) (by omega) (by decide)), Nat.le_trans (lowN_nat _ _) (by omega), ?_⟩
  exact Nat.le_trans (Nat.div_le_self _ _) (by omega)
set_option maxHeartbeats 1600000 in
set_option maxRecDepth 100000 in
theorem mkS_any (x y : Int) (w : World) (hs : Std w) (h1 : -32768 ≤ x) (h2 : x ≤ 32767) (h3 : 0 ≤ y) (h4 : y ≤ 255) :
    Calls Tryz.prog 61 #[.agg #[.int .i16 x, .int .u8 y]] w fun e w' => e = .returned (ratP (smP x y)) ∧ Below w.heap.size w w' := by
  have HF := Lib.hid (fun wx hw => fracY_any x (1 + y) wx hw (by omega) (by omega) (by omega) (by omega) (by omega))
  have hn : newN x (1 + y) = (smP x y).1 := if_neg (by omega)
  have hd : newD x (1 + y) = (smP x y).2 := if_neg (by omega)
  rw [hn, hd] at HF
  obtain ⟨rs, hrs⟩ : ∃ s, s = zS (smP x y).1 := ⟨_, rfl⟩
  obtain ⟨rt, hrt⟩ : ∃ s, s = str (smP x y).2 := ⟨_, rfl⟩
  rw [← hrs, ← hrt] at HF
  show Calls Tryz.prog 61 #[.agg #[.int .i16 x, .int .u8 y]] w fun e w' => e = .returned (ratV (zS (smP x y).1) (str (smP x y).2)) ∧ Below w.heap.size w w'
  rw [← hrs, ← hrt]
  have HS := Lib.hid hs
  have HX := Lib.hid ((BxS.new w x y).below ((Below.refl _ _).alloc (Nat.le_refl _) (.cells #[.string ⟨#[]⟩, .string ⟨#[]⟩] 24)))
  have HT := Lib.hid (BxT.new (w.alloc (.cells #[.int .i16 x, .int .u8 y] 68)) w.heap.size (by rw [push_size]; omega) 24 (.string ⟨#[]⟩) (.string ⟨#[]⟩))
  rw [push_size] at HT
  have HB := Lib.hid (((Below.refl w.heap.size w).alloc (Nat.le_refl _) (.cells #[.int .i16 x, .int .u8 y] 68)).alloc (by rw [push_size]; omega) (.cells #[.string ⟨#[]⟩, .string ⟨#[]⟩] 24))
  clear hs hn hd hrs hrt
  go_enter Tryz.func61, Tryz.ntmps61
  go_upto_region 1 with fail
  obtain ⟨W0, hW0⟩ : ∃ W0, W0 = (w.alloc (.cells #[.int .i16 x, .int .u8 y] 68)).alloc (.cells #[.string ⟨#[]⟩, .string ⟨#[]⟩] 24) := ⟨_, rfl⟩
  rw [← hW0] at HX HT HB ⊢
  clear hW0
  have c0 := HX.out.c0
  have c1 := HX.out.c1
  go_wp2_with fail
  refine (HF.out _ (HS.out.below HB.out)).mono ?_
  rintro e w1 ⟨rfl, b1⟩
  have Z1 := HT.out.kept b1
  have B1 := HB.out.trans (b1.mono HB.out.size)
  obtain ⟨f0, e0, e1, f1, g1, x0, x1⟩ := Z1.stores (.string rs) (.string rt)
  have HBE := Lib.hid ((B1.setCell (p := ⟨w.heap.size + 1, 0, none⟩) (Nat.le_succ _) (.string rs)).setCell (p := ⟨w.heap.size + 1, 1, none⟩) (Nat.le_succ _) (.string rt))
  clear b1 Z1 B1 c0 c1
  go_wp2_with fail
  (try simp only [Exit.inBlock, Exit.then])
  refine bodyPost_ret (v := ratV rs rt) ?_ rfl ⟨rfl, HBE.out⟩
  rw [results_cell_one rfl]
  go_simp
end Go.Proofs.YtdgbplppabalgaaGreatDoor
