/-
  known.
-/
import Derived.Test.YtkpaopfdnfgjeaaGreatDoorWText
namespace Go.Proofs.YtkpaopfdnfgjeaaGreatDoor
open Go.RowKit

theorem Rd.lit (w : World) (l : List Int) (cs : Array Value) (T : TypeId) (hcs : cs = (ci l).toArray) (hb : ∀ z ∈ l, -9223372036854775808 ≤ z ∧ z ≤ 9223372036854775807) (hl : l.length ≤ 1000) : Rd (w.alloc (.cells cs T)) (some ⟨w.heap.size, 0, none⟩) l.length l.length l := by
  refine ⟨rfl, Nat.le_refl _, by unfold maxLen; omega, hb, .inr ⟨w.heap.size, 0, rfl, by simp, fun i hi => ?_⟩⟩
  rw [Nat.zero_add, World.cell?_alloc_new, hcs, List.getElem?_toArray]
  exact ci_at l i hi
theorem below_alloc {w : World} (o : Obj) : Below w.heap.size w (w.alloc o) := (Below.refl _ _).alloc (Nat.le_refl _) o
theorem Rd.some3 {w : World} {a : Option Addr} {n cap : Nat} {x y z : Int} (h : Rd w a n cap [x, y, z]) : n = 3 ∧ ∃ b off, a = some ⟨b, off, none⟩ ∧ b < w.heap.size ∧ w.cell? ⟨b, off, none⟩ = some (.int .i64 x) ∧ w.cell? ⟨b, off + 1, none⟩ = some (.int .i64 y) := by
  refine ⟨h.len.symm, ?_⟩
  rcases h.ways with ⟨e, _⟩ | ⟨b, off, e, hb, hc⟩
  · cases e
  · exact ⟨b, off, e, hb, hc 0 (by simp), hc 1 (by simp)⟩

theorem known_text : textS [-4, 4, -1] true = ⟨#[91, 45, 52, 32, 52, 32, 45, 49, 62]⟩ := by decide +kernel
theorem known_dot : dotV [-4, 4, -1] [12, 19, 28] = 0 ∧ dotE [-4, 4, -1] [12, 19, 28] = 0 := by decide +kernel
theorem known_prim : primV [6, -4, 0] = [3, -2, 0] ∧ primE [6, -4, 0] = 0 := by decide +kernel
theorem known_scale : scaleV [1000000000] 2 = [] ∧ scaleE [1000000000] 2 = 4 := by decide +kernel

theorem k_text (w : World) (hs : Std w) : Calls Tryz.prog 6 #[.slice (some ⟨w.heap.size, 0, none⟩) 3 3, .bool true] (w.alloc (.cells #[.int .i64 (-4), .int .i64 4, .int .i64 (-1)] 3)) fun e w' => e = .returned (.tuple #[.string ⟨#[91, 45, 52, 32, 52, 32, 45, 49, 62]⟩, .int .i64 0]) ∧ Below w.heap.size w w' := by
  have h := textN_any _ _ _ [-4, 4, -1] true _ (hs.below (below_alloc _)) (Rd.lit w [-4, 4, -1] #[.int .i64 (-4), .int .i64 4, .int .i64 (-1)] 3 rfl (by decide) (by decide)) (by decide)
  rw [known_text] at h
  exact h.mono fun e w' h => ⟨h.1, (below_alloc _).trans (h.2.mono (by simp))⟩
theorem k_dot (w : World) : Calls Tryz.prog 12 #[.slice (some ⟨w.heap.size, 0, none⟩) 3 3, .slice (some ⟨w.heap.size + 1, 0, none⟩) 3 3] ((w.alloc (.cells #[.int .i64 (-4), .int .i64 4, .int .i64 (-1)] 3)).alloc (.cells #[.int .i64 12, .int .i64 19, .int .i64 28] 3)) fun e w' => e = .returned (.tuple #[.int .i64 0, .int .i64 0]) ∧ Below w.heap.size w w' := by
  have h1 := Rd.lit w [-4, 4, -1] #[.int .i64 (-4), .int .i64 4, .int .i64 (-1)] 3 rfl (by decide) (by decide)
  have h2 := Rd.lit (w.alloc (.cells #[.int .i64 (-4), .int .i64 4, .int .i64 (-1)] 3)) [12, 19, 28] #[.int .i64 12, .int .i64 19, .int .i64 28] 3 rfl (by decide) (by decide)
  have hz : (w.alloc (.cells #[.int .i64 (-4), .int .i64 4, .int .i64 (-1)] 3)).heap.size = w.heap.size + 1 := by simp
  rw [hz] at h2
  have h := dotN_any _ _ _ _ _ _ _ _ _ (h1.below (below_alloc _)) h2
  rw [known_dot.1, known_dot.2] at h
  exact h.mono fun e w' h => ⟨h.1, ((below_alloc _).trans ((below_alloc _).mono (by simp))).trans (h.2.mono (by simp; omega))⟩
theorem k_prim (w : World) : Calls Tryz.prog 13 #[.slice (some ⟨w.heap.size, 0, none⟩) 3 3] (w.alloc (.cells #[.int .i64 6, .int .i64 (-4), .int .i64 0] 3)) fun e w' => ∃ b off cap, e = .returned (.tuple #[.slice (some ⟨b, off, none⟩) 3 cap, .int .i64 0]) ∧ Hid (Rd w' (some ⟨b, off, none⟩) 3 cap [3, -2, 0]) ∧ Below w.heap.size w w' := by
  have h := primN_any _ _ _ _ _ (Rd.lit w [6, -4, 0] #[.int .i64 6, .int .i64 (-4), .int .i64 0] 3 rfl (by decide) (by decide))
  rw [known_prim.1, known_prim.2] at h
  refine h.mono ?_
  rintro e w' ⟨a, n, cap, rfl, hr, hb⟩
  obtain ⟨rfl, b, off, rfl, _⟩ := hr.some3
  exact ⟨b, off, cap, rfl, Lib.hid hr, (below_alloc _).trans (hb.mono (by simp))⟩
theorem k_scale (w : World) : Calls Tryz.prog 14 #[.slice (some ⟨w.heap.size, 0, none⟩) 1 1, .int .i64 2] (w.alloc (.cells #[.int .i64 1000000000] 3)) fun e w' => ∃ a n cap, e = .returned (.tuple #[.slice a n cap, .int .i64 4]) ∧ Below w.heap.size w w' := by
  have h := scaleN_any _ _ _ _ 2 _ (Rd.lit w [1000000000] #[.int .i64 1000000000] 3 rfl (by decide) (by decide))
  rw [known_scale.2] at h
  refine h.mono ?_
  rintro e w' ⟨a, n, cap, rfl, hr, hb⟩
  exact ⟨a, n, cap, rfl, (below_alloc _).trans (hb.mono (by simp))⟩

set_option maxHeartbeats 1600000 in
set_option maxRecDepth 100000 in
theorem known_any (w : World) (hs : Std w) :
    Calls Tryz.prog 5 #[] w fun e w' => e = .returned (.bool true) ∧ Below w.heap.size w w' := by
  have HT := Lib.hid (k_text w hs)
  have HD := Lib.hid (fun wx => k_dot wx)
  have HP := Lib.hid (fun wx => k_prim wx)
  have HS := Lib.hid (fun wx => k_scale wx)
  clear hs
  go_enter Tryz.func5, Tryz.ntmps5
  go_wp2_with fail
  refine HT.out.mono ?_
  rintro e w1 ⟨rfl, h1⟩
  have H1 := Lib.hid h1
  clear h1
  go_wp2_with fail
  refine (HD.out _).mono ?_
  rintro e w2 ⟨rfl, h2⟩
  have H2 := Lib.hid (H1.out.trans (h2.mono H1.out.size))
  clear h2
  go_wp2_with fail
  refine (HP.out _).mono ?_
  rintro e w3 ⟨b, off, cap, rfl, hr, h3⟩
  have H3 := Lib.hid (H2.out.trans (h3.mono H2.out.size))
  clear h3
  go_wp2_with fail
  refine (HS.out _).mono ?_
  rintro e w4 ⟨a4, n4, cap4, rfl, h4⟩
  have H4 := Lib.hid (H3.out.trans (h4.mono H3.out.size))
  obtain ⟨-, b', off', e', -, c0, c1⟩ := (hr.out.below h4).some3
  cases e'
  have hcap := hr.out.cap
  clear h4 hr
  go_wp2_with fail
  go_ret
  exact ⟨rfl, H4.out⟩
end Go.Proofs.YtkpaopfdnfgjeaaGreatDoor
