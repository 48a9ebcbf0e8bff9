/-
  Texts of one seat, joined: YSum3.
-/
import Derived.Test.YtdgbplppabalgaaGreatDoorJ29
import Derived.Test.YtdgbplppabalgaaGreatDoorJ28
import Derived.Test.YtdgbplppabalgaaGreatDoorJ19
import Derived.LoopN
namespace Go.Proofs.YtdgbplppabalgaaGreatDoor
open Go.RowKit

/-- the cells of the result and of the total -/
structure Btot (w W : World) (s t : ByteArray) : Prop where
  res : Bz w W
  tot : BxT W (w.heap.size + 1) (w.heap.size + 1) 24 (.string s) (.string t)
theorem Btot.to {w W W' : World} {s t : ByteArray} (h : Btot w W s t) (hb : Below W.heap.size W W') : Btot w W' s t := ⟨h.res.to hb, h.tot.kept hb⟩
theorem Btot.put {w W : World} {s t : ByteArray} (h : Btot w W s t) (u v : ByteArray) : Btot w ((W.setCell ⟨w.heap.size + 1, 0, none⟩ (.string u)).setCell ⟨w.heap.size + 1, 1, none⟩ (.string v)) u v :=
  ⟨⟨(h.res.below.setCell (p := ⟨w.heap.size + 1, 0, none⟩) (Nat.le_succ _) _).setCell (p := ⟨w.heap.size + 1, 1, none⟩) (Nat.le_succ _) _, (h.res.res.other (p := ⟨w.heap.size + 1, 0, none⟩) (Nat.ne_of_lt (Nat.lt_succ_self _)) _).other (p := ⟨w.heap.size + 1, 1, none⟩) (Nat.ne_of_lt (Nat.lt_succ_self _)) _⟩, (h.tot.set0 (.string u)).set1 (.string v)⟩
theorem Btot.new (w : World) (s t : ByteArray) : Btot w ((w.alloc (.cells #[.string ⟨#[]⟩, .string ⟨#[]⟩] 24)).alloc (.cells #[.string s, .string t] 24)) s t := by
  have h := BxT.new (w.alloc (.cells #[.string ⟨#[]⟩, .string ⟨#[]⟩] 24)) (w.heap.size + 1) (by rw [push_size]; omega) 24 (.string s) (.string t)
  rw [push_size] at h
  exact ⟨(Bz.new w).to ((Below.refl _ _).alloc (Nat.le_refl _) _), h⟩
set_option maxHeartbeats 3200000 in
set_option maxRecDepth 100000 in
theorem sum3F_any (s1 t1 s2 t2 s3 t3 u v p q : ByteArray) (g : Nat) (w : World) (hr : Rw w g [s1, t1, s2, t2, s3, t3])
    (h1 : ∀ wx, Below w.heap.size w wx → Calls Tryz.prog 33 #[ratV ⟨#[48]⟩ ⟨#[49]⟩, ratV s1 t1] wx fun e w' => e = .returned (ratV s1 t1) ∧ Below wx.heap.size wx w')
    (h2 : ∀ wx, Below w.heap.size w wx → Calls Tryz.prog 33 #[ratV s1 t1, ratV s2 t2] wx fun e w' => e = .returned (ratV u v) ∧ Below wx.heap.size wx w')
    (h3 : ∀ wx, Below w.heap.size w wx → Calls Tryz.prog 33 #[ratV u v, ratV s3 t3] wx fun e w' => e = .returned (ratV p q) ∧ Below wx.heap.size wx w') :
    Calls Tryz.prog 40 #[.slice (some ⟨g, 0, none⟩) 3 3] w fun e w' => e = .returned (ratV p q) ∧ Below w.heap.size w w' := by
  have HR := Lib.hid (fun wx (hb : Below w.heap.size w wx) => hr.below hb)
  have H1 := Lib.hid h1
  have H2 := Lib.hid h2
  have H3 := Lib.hid h3
  have T0 := Lib.hid (Btot.new w ⟨#[48]⟩ ⟨#[49]⟩)
  clear hr h1 h2 h3
  go_enter Tryz.func40, Tryz.ntmps40
  go_upto_region 5 with fail
  obtain ⟨U0, hU⟩ : ∃ U, U = (w.alloc (.cells #[.string ⟨#[]⟩, .string ⟨#[]⟩] 24)).alloc (.cells #[.string ⟨#[48]⟩, .string ⟨#[49]⟩] 24) := ⟨_, rfl⟩
  rw [← hU] at T0 ⊢
  clear hU
  go_wp2_with fail
  refine wp_loop_rounds 4 ?_
  rw [rounds_succ]
  have c0 := (HR.out _ T0.out.res.below).get 0 (by show 0 < 6; decide)
  have c1 := (HR.out _ T0.out.res.below).get 1 (by show 1 < 6; decide)
  go_upto_region 8 with fail
  have BX := Lib.hid (BxR.new U0 s1 t1)
  have TA := Lib.hid (T0.out.to ((Below.refl _ _).alloc (Nat.le_refl _) (ratO s1 t1)))
  obtain ⟨g, hg⟩ : ∃ g, g = U0.heap.size := ⟨_, rfl⟩
  obtain ⟨V0, hV⟩ : ∃ V, V = U0.alloc (ratO s1 t1) := ⟨_, rfl⟩
  rw [← hg, ← hV] at BX
  rw [← hV] at TA ⊢
  try rw [← hg]
  clear hg hV c0 c1
  have d0 := BX.out.num
  have d1 := BX.out.den
  have d2 := TA.out.tot.c0
  have d3 := TA.out.tot.c1
  go_wp2_with fail
  refine (H1.out _ TA.out.res.below).mono ?_
  rintro e w1 ⟨rfl, b⟩
  have TB := TA.out.to b
  obtain ⟨x0, x1, x2, x3, x4, x5, x6⟩ := TB.tot.stores (.string s1) (.string t1)
  have TP := Lib.hid (TB.put s1 t1)
  clear b TB TA BX d0 d1 d2 d3 T0
  go_upto_region 9 with fail
  obtain ⟨U1, hU⟩ : ∃ U, U = (w1.setCell ⟨w.heap.size + 1, 0, none⟩ (.string s1)).setCell ⟨w.heap.size + 1, 1, none⟩ (.string t1) := ⟨_, rfl⟩
  rw [← hU] at TP ⊢
  have T1 := TP
  clear hU x0 x1 x2 x3 x4 x5 x6 TP
  go_wp2_with fail
  rw [rounds_succ]
  have c0 := (HR.out _ T1.out.res.below).get 2 (by show 2 < 6; decide)
  have c1 := (HR.out _ T1.out.res.below).get 3 (by show 3 < 6; decide)
  go_upto_region 8 with fail
  have BX := Lib.hid (BxR.new U1 s2 t2)
  have TA := Lib.hid (T1.out.to ((Below.refl _ _).alloc (Nat.le_refl _) (ratO s2 t2)))
  obtain ⟨g, hg⟩ : ∃ g, g = U1.heap.size := ⟨_, rfl⟩
  obtain ⟨V1, hV⟩ : ∃ V, V = U1.alloc (ratO s2 t2) := ⟨_, rfl⟩
  rw [← hg, ← hV] at BX
  rw [← hV] at TA ⊢
  try rw [← hg]
  clear hg hV c0 c1
  have d0 := BX.out.num
  have d1 := BX.out.den
  have d2 := TA.out.tot.c0
  have d3 := TA.out.tot.c1
  go_wp2_with fail
  refine (H2.out _ TA.out.res.below).mono ?_
  rintro e w2 ⟨rfl, b⟩
  have TB := TA.out.to b
  obtain ⟨x0, x1, x2, x3, x4, x5, x6⟩ := TB.tot.stores (.string u) (.string v)
  have TP := Lib.hid (TB.put u v)
  clear b TB TA BX d0 d1 d2 d3 T1
  go_upto_region 9 with fail
  obtain ⟨U2, hU⟩ : ∃ U, U = (w2.setCell ⟨w.heap.size + 1, 0, none⟩ (.string u)).setCell ⟨w.heap.size + 1, 1, none⟩ (.string v) := ⟨_, rfl⟩
  rw [← hU] at TP ⊢
  have T2 := TP
  clear hU x0 x1 x2 x3 x4 x5 x6 TP
  go_wp2_with fail
  rw [rounds_succ]
  have c0 := (HR.out _ T2.out.res.below).get 4 (by show 4 < 6; decide)
  have c1 := (HR.out _ T2.out.res.below).get 5 (by show 5 < 6; decide)
  go_upto_region 8 with fail
  have BX := Lib.hid (BxR.new U2 s3 t3)
  have TA := Lib.hid (T2.out.to ((Below.refl _ _).alloc (Nat.le_refl _) (ratO s3 t3)))
  obtain ⟨g, hg⟩ : ∃ g, g = U2.heap.size := ⟨_, rfl⟩
  obtain ⟨V2, hV⟩ : ∃ V, V = U2.alloc (ratO s3 t3) := ⟨_, rfl⟩
  rw [← hg, ← hV] at BX
  rw [← hV] at TA ⊢
  try rw [← hg]
  clear hg hV c0 c1
  have d0 := BX.out.num
  have d1 := BX.out.den
  have d2 := TA.out.tot.c0
  have d3 := TA.out.tot.c1
  go_wp2_with fail
  refine (H3.out _ TA.out.res.below).mono ?_
  rintro e w3 ⟨rfl, b⟩
  have TB := TA.out.to b
  obtain ⟨x0, x1, x2, x3, x4, x5, x6⟩ := TB.tot.stores (.string p) (.string q)
  have TP := Lib.hid (TB.put p q)
  clear b TB TA BX d0 d1 d2 d3 T2
  go_upto_region 9 with fail
  obtain ⟨U3, hU⟩ : ∃ U, U = (w3.setCell ⟨w.heap.size + 1, 0, none⟩ (.string p)).setCell ⟨w.heap.size + 1, 1, none⟩ (.string q) := ⟨_, rfl⟩
  rw [← hU] at TP ⊢
  have T3 := TP
  clear hU x0 x1 x2 x3 x4 x5 x6 TP
  go_wp2_with fail
  rw [rounds_succ]
  have f0 := T3.out.tot.c0
  have f1 := T3.out.tot.c1
  obtain ⟨x0, x1, x2, x3, x4, x5, x6⟩ := T3.out.res.res.stores (.string p) (.string q)
  have HBE := Lib.hid ((T3.out.res.below.setCell (p := ⟨w.heap.size, 0, none⟩) (Nat.le_refl _) (.string p)).setCell (p := ⟨w.heap.size, 1, none⟩) (Nat.le_refl _) (.string q))
  go_wp2_with fail
  (try simp only [Exit.inBlock, Exit.then])
  refine bodyPost_ret (v := ratV p q) ?_ rfl ⟨rfl, HBE.out⟩
  rw [results_cell_one rfl]
  go_simp
set_option maxHeartbeats 1600000 in
theorem sum0F_any (w : World) :
    Calls Tryz.prog 40 #[.slice none 0 0] w fun e w' => e = .returned (ratV ⟨#[48]⟩ ⟨#[49]⟩) ∧ Below w.heap.size w w' := by
  have T0 := Lib.hid (Btot.new w ⟨#[48]⟩ ⟨#[49]⟩)
  go_enter Tryz.func40, Tryz.ntmps40
  go_upto_region 5 with fail
  obtain ⟨U0, hU⟩ : ∃ U, U = (w.alloc (.cells #[.string ⟨#[]⟩, .string ⟨#[]⟩] 24)).alloc (.cells #[.string ⟨#[48]⟩, .string ⟨#[49]⟩] 24) := ⟨_, rfl⟩
  rw [← hU] at T0 ⊢
  clear hU
  go_wp2_with fail
  refine wp_loop_rounds 1 ?_
  rw [rounds_succ]
  have f0 := T0.out.tot.c0
  have f1 := T0.out.tot.c1
  obtain ⟨x0, x1, x2, x3, x4, x5, x6⟩ := T0.out.res.res.stores (.string ⟨#[48]⟩) (.string ⟨#[49]⟩)
  have HBE := Lib.hid ((T0.out.res.below.setCell (p := ⟨w.heap.size, 0, none⟩) (Nat.le_refl _) (.string ⟨#[48]⟩)).setCell (p := ⟨w.heap.size, 1, none⟩) (Nat.le_refl _) (.string ⟨#[49]⟩))
  go_wp2_with fail
  (try simp only [Exit.inBlock, Exit.then])
  refine bodyPost_ret (v := ratV ⟨#[48]⟩ ⟨#[49]⟩) ?_ rfl ⟨rfl, HBE.out⟩
  rw [results_cell_one rfl]
  go_simp
end Go.Proofs.YtdgbplppabalgaaGreatDoor
