/-
  Texts of one seat, joined: YQk.
-/
import Derived.Test.YtgkfdgdlmpggpaaGreatDoorJ25
import Derived.Test.YtgkfdgdlmpggpaaGreatDoorJ21
import Derived.Deep.Cut
namespace Go.Proofs.YtgkfdgdlmpggpaaGreatDoor
open Go.RowKit

abbrev rtV (n d : Int) : Value := .agg #[.int .i64 n, .int .i64 d]
abbrev rtO (n d : Int) : Obj := .cells #[.int .i64 n, .int .i64 d] 78
/-- two boxes of small fractions and the cell of a fraction -/
structure Br (w W : World) (n1 d1 n2 d2 : Int) : Prop where
  below : Below w.heap.size w W
  one : BxT W w.heap.size w.heap.size 78 (.int .i64 n1) (.int .i64 d1)
  two : BxT W w.heap.size (w.heap.size + 1) 78 (.int .i64 n2) (.int .i64 d2)
  res : BxT W w.heap.size (w.heap.size + 1 + 1) 24 (.string ⟨#[]⟩) (.string ⟨#[]⟩)
theorem Br.to {w W W' : World} {n1 d1 n2 d2 : Int} (h : Br w W n1 d1 n2 d2) (hb : Below W.heap.size W W') : Br w W' n1 d1 n2 d2 := ⟨h.below.trans (hb.mono h.below.size), h.one.kept hb, h.two.kept hb, h.res.kept hb⟩
theorem BxT.allocY {w : World} {B g : Nat} {T : TypeId} {u v : Value} (h : BxT w B g T u v) (o : Obj) : BxT (w.alloc o) B g T u v := World.ownsRow.alloc h o
theorem Br.new (w : World) (n1 d1 n2 d2 : Int) : Br w (((w.alloc (rtO n1 d1)).alloc (rtO n2 d2)).alloc (.cells #[.string ⟨#[]⟩, .string ⟨#[]⟩] 24)) n1 d1 n2 d2 := by
  have h1 := BxT.new (w.alloc (rtO n1 d1)) w.heap.size (by rw [push_size]; omega) 78 (.int .i64 n2) (.int .i64 d2)
  have h2 := BxT.new ((w.alloc (rtO n1 d1)).alloc (rtO n2 d2)) w.heap.size (by rw [push_size, push_size]; omega) 24 (.string ⟨#[]⟩) (.string ⟨#[]⟩)
  rw [push_size] at h1
  rw [push_size, push_size] at h2
  exact ⟨(((Below.refl _ w).alloc (Nat.le_refl _) _).alloc (by rw [push_size]; omega) _).alloc (by rw [push_size, push_size]; omega) _, ((BxT.new w w.heap.size (Nat.le_refl _) 78 (.int .i64 n1) (.int .i64 d1)).allocY _).allocY _, h1.allocY _, h2⟩
theorem fit_lt {x y : Int} (h : fitF x y = true) : -4611686018427387904 < x * y ∧ x * y < 4611686018427387904 := by
  have h1 := of_decide_eq_true h
  rw [← Int.natAbs_mul] at h1
  omega
set_option maxHeartbeats 3200000 in
set_option maxRecDepth 100000 in
theorem addFew_any (n1 d1 n2 d2 : Int) (w : World) (hs : Std w) (h1 : fewOk n1 d1) (h2 : fewOk n2 d2) :
    Calls Tryz.prog 94 #[rtV n1 d1, rtV n2 d2] w fun e w' => (∃ ok : Bool, e = .returned (.tuple #[ratV (if ok = true then zS (lowN (n1 * d2 + n2 * d1) (d1 * d2).natAbs) else ⟨#[]⟩) (if ok = true then str (lowD (n1 * d2 + n2 * d1) (d1 * d2).natAbs) else ⟨#[]⟩), .bool ok])) ∧ Below w.heap.size w w' := by
  obtain ⟨a1, a2, a3, a4⟩ := h1
  obtain ⟨c1, c2, c3, c4⟩ := h2
  have hdp : 0 < d1 * d2 := Int.mul_pos a3 c3
  have HT0 := Lib.hid (fun wx => timesF_any n1 d2 wx (by omega) (by omega) (by omega) (by omega))
  have HT1 := Lib.hid (fun wx => timesF_any n2 d1 wx (by omega) (by omega) (by omega) (by omega))
  have HT2 := Lib.hid (fun wx => timesF_any d1 d2 wx (by omega) (by omega) (by omega) (by omega))
  have HX0 := Br.new w n1 d1 n2 d2
  have HS := Lib.hid hs
  have HDP := Lib.hid hdp
  clear hs hdp
  have HF0 := Lib.hid (fun (h : fitF n1 d2 = true) => fit_lt h)
  obtain ⟨F0, hF0⟩ : ∃ F, F = fitF n1 d2 := ⟨_, rfl⟩
  rw [← hF0] at HT0 HF0
  have HF1 := Lib.hid (fun (h : fitF n2 d1 = true) => fit_lt h)
  obtain ⟨F1, hF1⟩ : ∃ F, F = fitF n2 d1 := ⟨_, rfl⟩
  rw [← hF1] at HT1 HF1
  have HF2 := Lib.hid (fun (h : fitF d1 d2 = true) => fit_lt h)
  obtain ⟨F2, hF2⟩ : ∃ F, F = fitF d1 d2 := ⟨_, rfl⟩
  rw [← hF2] at HT2 HF2
  clear hF0 hF1 hF2
  obtain ⟨rs, hrs⟩ : ∃ s, s = zS (lowN (n1 * d2 + n2 * d1) (d1 * d2).natAbs) := ⟨_, rfl⟩
  obtain ⟨rt, hrt⟩ : ∃ s, s = str (lowD (n1 * d2 + n2 * d1) (d1 * d2).natAbs) := ⟨_, rfl⟩
  have HRS := Lib.hid hrs
  have HRT := Lib.hid hrt
  rw [← hrs, ← hrt]
  clear hrs hrt
  cases F0 with
  | false =>
    cases F1 <;> cases F2
    all_goals (
      go_enter Tryz.func94, Tryz.ntmps94
      go_upto_region 1 with fail
      obtain ⟨W0, hW0⟩ : ∃ W0, W0 = ((w.alloc (rtO n1 d1)).alloc (rtO n2 d2)).alloc (.cells #[.string ⟨#[]⟩, .string ⟨#[]⟩] 24) := ⟨_, rfl⟩
      rw [← hW0] at HX0 ⊢
      clear hW0
      have k1 := HX0.one.c0
      have k2 := HX0.one.c1
      have k3 := HX0.two.c0
      have k4 := HX0.two.c1
      have Z0 := Lib.hid HX0
      clear HX0
      go_wp2_with fail
      refine (HT0.out _).mono ?_
      rintro e w1 ⟨⟨v0, rfl, hv0⟩, rfl⟩
      have HV0 := Lib.hid hv0
      clear hv0
      go_wp2_with fail
      refine (HT1.out _).mono ?_
      rintro e w2 ⟨⟨v1, rfl, hv1⟩, rfl⟩
      have HV1 := Lib.hid hv1
      clear hv1
      go_wp2_with fail
      refine (HT2.out _).mono ?_
      rintro e w3 ⟨⟨v2, rfl, hv2⟩, rfl⟩
      have HV2 := Lib.hid hv2
      clear hv2
      clear k1 k2 k3 k4
      have f0 := Z0.out.res.free 0
      have e0 := Z0.out.res.c0
      have e1 := Z0.out.res.c1
      have S0 := Z0.out.res.set0 (.string ⟨#[]⟩)
      have S1 := S0.set1 (.string ⟨#[]⟩)
      have f1 := S0.free 1
      have g1 := S0.c1
      have u0 := S1.c0
      have u1 := S1.c1
      have HBE := Lib.hid ((Z0.out.below.setCell (p := ⟨w.heap.size + 1 + 1, 0, none⟩) (by show w.heap.size ≤ w.heap.size + 1 + 1; omega) (.string ⟨#[]⟩)).setCell (p := ⟨w.heap.size + 1 + 1, 1, none⟩) (by show w.heap.size ≤ w.heap.size + 1 + 1; omega) (.string ⟨#[]⟩))
      clear S0 S1
      go_wp2_with fail
      (try simp only [Exit.inBlock, Exit.then])
      refine bodyPost_ret (v := .tuple #[ratV ⟨#[]⟩ ⟨#[]⟩, .bool false]) ?_ rfl ⟨⟨false, rfl⟩, HBE.out⟩
      rw [results_cell_tmp rfl]
      go_simp)
  | true =>
    cases F1 with
    | false =>
      cases F2
      all_goals (
        go_enter Tryz.func94, Tryz.ntmps94
        go_upto_region 1 with fail
        obtain ⟨W0, hW0⟩ : ∃ W0, W0 = ((w.alloc (rtO n1 d1)).alloc (rtO n2 d2)).alloc (.cells #[.string ⟨#[]⟩, .string ⟨#[]⟩] 24) := ⟨_, rfl⟩
        rw [← hW0] at HX0 ⊢
        clear hW0
        have k1 := HX0.one.c0
        have k2 := HX0.one.c1
        have k3 := HX0.two.c0
        have k4 := HX0.two.c1
        have Z0 := Lib.hid HX0
        clear HX0
        go_wp2_with fail
        refine (HT0.out _).mono ?_
        rintro e w1 ⟨⟨v0, rfl, hv0⟩, rfl⟩
        have HV0 := Lib.hid hv0
        clear hv0
        go_wp2_with fail
        refine (HT1.out _).mono ?_
        rintro e w2 ⟨⟨v1, rfl, hv1⟩, rfl⟩
        have HV1 := Lib.hid hv1
        clear hv1
        go_wp2_with fail
        refine (HT2.out _).mono ?_
        rintro e w3 ⟨⟨v2, rfl, hv2⟩, rfl⟩
        have HV2 := Lib.hid hv2
        clear hv2
        clear k1 k2 k3 k4
        have f0 := Z0.out.res.free 0
        have e0 := Z0.out.res.c0
        have e1 := Z0.out.res.c1
        have S0 := Z0.out.res.set0 (.string ⟨#[]⟩)
        have S1 := S0.set1 (.string ⟨#[]⟩)
        have f1 := S0.free 1
        have g1 := S0.c1
        have u0 := S1.c0
        have u1 := S1.c1
        have HBE := Lib.hid ((Z0.out.below.setCell (p := ⟨w.heap.size + 1 + 1, 0, none⟩) (by show w.heap.size ≤ w.heap.size + 1 + 1; omega) (.string ⟨#[]⟩)).setCell (p := ⟨w.heap.size + 1 + 1, 1, none⟩) (by show w.heap.size ≤ w.heap.size + 1 + 1; omega) (.string ⟨#[]⟩))
        clear S0 S1
        go_wp2_with fail
        (try simp only [Exit.inBlock, Exit.then])
        refine bodyPost_ret (v := .tuple #[ratV ⟨#[]⟩ ⟨#[]⟩, .bool false]) ?_ rfl ⟨⟨false, rfl⟩, HBE.out⟩
        rw [results_cell_tmp rfl]
        go_simp)
    | true =>
      cases F2 with
      | false =>
        go_enter Tryz.func94, Tryz.ntmps94
        go_upto_region 1 with fail
        obtain ⟨W0, hW0⟩ : ∃ W0, W0 = ((w.alloc (rtO n1 d1)).alloc (rtO n2 d2)).alloc (.cells #[.string ⟨#[]⟩, .string ⟨#[]⟩] 24) := ⟨_, rfl⟩
        rw [← hW0] at HX0 ⊢
        clear hW0
        have k1 := HX0.one.c0
        have k2 := HX0.one.c1
        have k3 := HX0.two.c0
        have k4 := HX0.two.c1
        have Z0 := Lib.hid HX0
        clear HX0
        go_wp2_with fail
        refine (HT0.out _).mono ?_
        rintro e w1 ⟨⟨v0, rfl, hv0⟩, rfl⟩
        have HV0 := Lib.hid hv0
        clear hv0
        go_wp2_with fail
        refine (HT1.out _).mono ?_
        rintro e w2 ⟨⟨v1, rfl, hv1⟩, rfl⟩
        have HV1 := Lib.hid hv1
        clear hv1
        go_wp2_with fail
        refine (HT2.out _).mono ?_
        rintro e w3 ⟨⟨v2, rfl, hv2⟩, rfl⟩
        have HV2 := Lib.hid hv2
        clear hv2
        clear k1 k2 k3 k4
        have f0 := Z0.out.res.free 0
        have e0 := Z0.out.res.c0
        have e1 := Z0.out.res.c1
        have S0 := Z0.out.res.set0 (.string ⟨#[]⟩)
        have S1 := S0.set1 (.string ⟨#[]⟩)
        have f1 := S0.free 1
        have g1 := S0.c1
        have u0 := S1.c0
        have u1 := S1.c1
        have HBE := Lib.hid ((Z0.out.below.setCell (p := ⟨w.heap.size + 1 + 1, 0, none⟩) (by show w.heap.size ≤ w.heap.size + 1 + 1; omega) (.string ⟨#[]⟩)).setCell (p := ⟨w.heap.size + 1 + 1, 1, none⟩) (by show w.heap.size ≤ w.heap.size + 1 + 1; omega) (.string ⟨#[]⟩))
        clear S0 S1
        go_wp2_with fail
        (try simp only [Exit.inBlock, Exit.then])
        refine bodyPost_ret (v := .tuple #[ratV ⟨#[]⟩ ⟨#[]⟩, .bool false]) ?_ rfl ⟨⟨false, rfl⟩, HBE.out⟩
        rw [results_cell_tmp rfl]
        go_simp
      | true =>
        go_enter Tryz.func94, Tryz.ntmps94
        go_upto_region 1 with fail
        obtain ⟨W0, hW0⟩ : ∃ W0, W0 = ((w.alloc (rtO n1 d1)).alloc (rtO n2 d2)).alloc (.cells #[.string ⟨#[]⟩, .string ⟨#[]⟩] 24) := ⟨_, rfl⟩
        rw [← hW0] at HX0 ⊢
        clear hW0
        have k1 := HX0.one.c0
        have k2 := HX0.one.c1
        have k3 := HX0.two.c0
        have k4 := HX0.two.c1
        have Z0 := Lib.hid HX0
        clear HX0
        go_wp2_with fail
        refine (HT0.out _).mono ?_
        rintro e w1 ⟨⟨v0, rfl, hv0⟩, rfl⟩
        have HV0 := Lib.hid hv0
        clear hv0
        go_wp2_with fail
        refine (HT1.out _).mono ?_
        rintro e w2 ⟨⟨v1, rfl, hv1⟩, rfl⟩
        have HV1 := Lib.hid hv1
        clear hv1
        go_wp2_with fail
        refine (HT2.out _).mono ?_
        rintro e w3 ⟨⟨v2, rfl, hv2⟩, rfl⟩
        have HV2 := Lib.hid hv2
        clear hv2
        have hw0 := HV0.out (by first | trivial | rfl)
        have hb0 := HF0.out (by first | trivial | rfl)
        rw [← hw0] at hb0
        have hw1 := HV1.out (by first | trivial | rfl)
        have hb1 := HF1.out (by first | trivial | rfl)
        rw [← hw1] at hb1
        have hw2 := HV2.out (by first | trivial | rfl)
        have hb2 := HF2.out (by first | trivial | rfl)
        rw [← hw2] at hb2
        have hsum := IntWalk.i64_in (v0 + v1) ⟨by omega, by omega⟩
        have hvp : 0 < v2 := by rw [hw2]; exact HDP.out
        have HLF := Lib.hid (lowF_any (v0 + v1) v2 W0 (HS.out.below Z0.out.below) hvp (by omega) (by omega) (by omega))
        rw [hw0, hw1, hw2, ← HRS.out, ← HRT.out] at HLF
        rw [← hw0, ← hw1, ← hw2] at HLF
        clear HV0 HV1 HV2 hb0 hb1 hb2 hw0 hw1 hw2 hvp k1 k2 k3 k4
        go_wp2_with fail
        refine HLF.out.mono ?_
        rintro e w5 ⟨rfl, h5⟩
        have Z5 := Lib.hid (Z0.out.to h5)
        clear h5
        have f0 := Z5.out.res.free 0
        have e0 := Z5.out.res.c0
        have e1 := Z5.out.res.c1
        have S0 := Z5.out.res.set0 (.string rs)
        have S1 := S0.set1 (.string rt)
        have f1 := S0.free 1
        have g1 := S0.c1
        have u0 := S1.c0
        have u1 := S1.c1
        have HBE := Lib.hid ((Z5.out.below.setCell (p := ⟨w.heap.size + 1 + 1, 0, none⟩) (by show w.heap.size ≤ w.heap.size + 1 + 1; omega) (.string rs)).setCell (p := ⟨w.heap.size + 1 + 1, 1, none⟩) (by show w.heap.size ≤ w.heap.size + 1 + 1; omega) (.string rt))
        clear S0 S1
        go_wp2_with fail
        (try simp only [Exit.inBlock, Exit.then])
        refine bodyPost_ret (v := .tuple #[ratV rs rt, .bool true]) ?_ rfl ⟨⟨true, rfl⟩, HBE.out⟩
        rw [results_cell_tmp rfl]
        go_simp
set_option maxHeartbeats 3200000 in
set_option maxRecDepth 100000 in
theorem mulFew_any (n1 d1 n2 d2 : Int) (w : World) (hs : Std w) (h1 : fewOk n1 d1) (h2 : fewOk n2 d2) :
    Calls Tryz.prog 99 #[rtV n1 d1, rtV n2 d2] w fun e w' => (∃ ok : Bool, e = .returned (.tuple #[ratV (if ok = true then zS (lowN (n1 * n2) (d1 * d2).natAbs) else ⟨#[]⟩) (if ok = true then str (lowD (n1 * n2) (d1 * d2).natAbs) else ⟨#[]⟩), .bool ok])) ∧ Below w.heap.size w w' := by
  obtain ⟨a1, a2, a3, a4⟩ := h1
  obtain ⟨c1, c2, c3, c4⟩ := h2
  have hdp : 0 < d1 * d2 := Int.mul_pos a3 c3
  have HT0 := Lib.hid (fun wx => timesF_any n1 n2 wx (by omega) (by omega) (by omega) (by omega))
  have HT1 := Lib.hid (fun wx => timesF_any d1 d2 wx (by omega) (by omega) (by omega) (by omega))
  have HX0 := Br.new w n1 d1 n2 d2
  have HS := Lib.hid hs
  have HDP := Lib.hid hdp
  clear hs hdp
  have HF0 := Lib.hid (fun (h : fitF n1 n2 = true) => fit_lt h)
  obtain ⟨F0, hF0⟩ : ∃ F, F = fitF n1 n2 := ⟨_, rfl⟩
  rw [← hF0] at HT0 HF0
  have HF1 := Lib.hid (fun (h : fitF d1 d2 = true) => fit_lt h)
  obtain ⟨F1, hF1⟩ : ∃ F, F = fitF d1 d2 := ⟨_, rfl⟩
  rw [← hF1] at HT1 HF1
  clear hF0 hF1
  obtain ⟨rs, hrs⟩ : ∃ s, s = zS (lowN (n1 * n2) (d1 * d2).natAbs) := ⟨_, rfl⟩
  obtain ⟨rt, hrt⟩ : ∃ s, s = str (lowD (n1 * n2) (d1 * d2).natAbs) := ⟨_, rfl⟩
  have HRS := Lib.hid hrs
  have HRT := Lib.hid hrt
  rw [← hrs, ← hrt]
  clear hrs hrt
  cases F0 with
  | false =>
    cases F1
    all_goals (
      go_enter Tryz.func99, Tryz.ntmps99
      go_upto_region 1 with fail
      obtain ⟨W0, hW0⟩ : ∃ W0, W0 = ((w.alloc (rtO n1 d1)).alloc (rtO n2 d2)).alloc (.cells #[.string ⟨#[]⟩, .string ⟨#[]⟩] 24) := ⟨_, rfl⟩
      rw [← hW0] at HX0 ⊢
      clear hW0
      have k1 := HX0.one.c0
      have k2 := HX0.one.c1
      have k3 := HX0.two.c0
      have k4 := HX0.two.c1
      have Z0 := Lib.hid HX0
      clear HX0
      go_wp2_with fail
      refine (HT0.out _).mono ?_
      rintro e w1 ⟨⟨v0, rfl, hv0⟩, rfl⟩
      have HV0 := Lib.hid hv0
      clear hv0
      go_wp2_with fail
      refine (HT1.out _).mono ?_
      rintro e w2 ⟨⟨v1, rfl, hv1⟩, rfl⟩
      have HV1 := Lib.hid hv1
      clear hv1
      clear k1 k2 k3 k4
      have f0 := Z0.out.res.free 0
      have e0 := Z0.out.res.c0
      have e1 := Z0.out.res.c1
      have S0 := Z0.out.res.set0 (.string ⟨#[]⟩)
      have S1 := S0.set1 (.string ⟨#[]⟩)
      have f1 := S0.free 1
      have g1 := S0.c1
      have u0 := S1.c0
      have u1 := S1.c1
      have HBE := Lib.hid ((Z0.out.below.setCell (p := ⟨w.heap.size + 1 + 1, 0, none⟩) (by show w.heap.size ≤ w.heap.size + 1 + 1; omega) (.string ⟨#[]⟩)).setCell (p := ⟨w.heap.size + 1 + 1, 1, none⟩) (by show w.heap.size ≤ w.heap.size + 1 + 1; omega) (.string ⟨#[]⟩))
      clear S0 S1
      go_wp2_with fail
      (try simp only [Exit.inBlock, Exit.then])
      refine bodyPost_ret (v := .tuple #[ratV ⟨#[]⟩ ⟨#[]⟩, .bool false]) ?_ rfl ⟨⟨false, rfl⟩, HBE.out⟩
      rw [results_cell_tmp rfl]
      go_simp)
  | true =>
    cases F1 with
    | false =>
      go_enter Tryz.func99, Tryz.ntmps99
      go_upto_region 1 with fail
      obtain ⟨W0, hW0⟩ : ∃ W0, W0 = ((w.alloc (rtO n1 d1)).alloc (rtO n2 d2)).alloc (.cells #[.string ⟨#[]⟩, .string ⟨#[]⟩] 24) := ⟨_, rfl⟩
      rw [← hW0] at HX0 ⊢
      clear hW0
      have k1 := HX0.one.c0
      have k2 := HX0.one.c1
      have k3 := HX0.two.c0
      have k4 := HX0.two.c1
      have Z0 := Lib.hid HX0
      clear HX0
      go_wp2_with fail
      refine (HT0.out _).mono ?_
      rintro e w1 ⟨⟨v0, rfl, hv0⟩, rfl⟩
      have HV0 := Lib.hid hv0
      clear hv0
      go_wp2_with fail
      refine (HT1.out _).mono ?_
      rintro e w2 ⟨⟨v1, rfl, hv1⟩, rfl⟩
      have HV1 := Lib.hid hv1
      clear hv1
      clear k1 k2 k3 k4
      have f0 := Z0.out.res.free 0
      have e0 := Z0.out.res.c0
      have e1 := Z0.out.res.c1
      have S0 := Z0.out.res.set0 (.string ⟨#[]⟩)
      have S1 := S0.set1 (.string ⟨#[]⟩)
      have f1 := S0.free 1
      have g1 := S0.c1
      have u0 := S1.c0
      have u1 := S1.c1
      have HBE := Lib.hid ((Z0.out.below.setCell (p := ⟨w.heap.size + 1 + 1, 0, none⟩) (by show w.heap.size ≤ w.heap.size + 1 + 1; omega) (.string ⟨#[]⟩)).setCell (p := ⟨w.heap.size + 1 + 1, 1, none⟩) (by show w.heap.size ≤ w.heap.size + 1 + 1; omega) (.string ⟨#[]⟩))
      clear S0 S1
      go_wp2_with fail
      (try simp only [Exit.inBlock, Exit.then])
      refine bodyPost_ret (v := .tuple #[ratV ⟨#[]⟩ ⟨#[]⟩, .bool false]) ?_ rfl ⟨⟨false, rfl⟩, HBE.out⟩
      rw [results_cell_tmp rfl]
      go_simp
    | true =>
      go_enter Tryz.func99, Tryz.ntmps99
      go_upto_region 1 with fail
      obtain ⟨W0, hW0⟩ : ∃ W0, W0 = ((w.alloc (rtO n1 d1)).alloc (rtO n2 d2)).alloc (.cells #[.string ⟨#[]⟩, .string ⟨#[]⟩] 24) := ⟨_, rfl⟩
      rw [← hW0] at HX0 ⊢
      clear hW0
      have k1 := HX0.one.c0
      have k2 := HX0.one.c1
      have k3 := HX0.two.c0
      have k4 := HX0.two.c1
      have Z0 := Lib.hid HX0
      clear HX0
      go_wp2_with fail
      refine (HT0.out _).mono ?_
      rintro e w1 ⟨⟨v0, rfl, hv0⟩, rfl⟩
      have HV0 := Lib.hid hv0
      clear hv0
      go_wp2_with fail
      refine (HT1.out _).mono ?_
      rintro e w2 ⟨⟨v1, rfl, hv1⟩, rfl⟩
      have HV1 := Lib.hid hv1
      clear hv1
      have hw0 := HV0.out (by first | trivial | rfl)
      have hb0 := HF0.out (by first | trivial | rfl)
      rw [← hw0] at hb0
      have hw1 := HV1.out (by first | trivial | rfl)
      have hb1 := HF1.out (by first | trivial | rfl)
      rw [← hw1] at hb1
      have hvp : 0 < v1 := by rw [hw1]; exact HDP.out
      have HLF := Lib.hid (lowF_any v0 v1 W0 (HS.out.below Z0.out.below) hvp (by omega) (by omega) (by omega))
      rw [hw0, hw1, ← HRS.out, ← HRT.out] at HLF
      rw [← hw0, ← hw1] at HLF
      clear HV0 HV1 hb0 hb1 hw0 hw1 hvp k1 k2 k3 k4
      go_wp2_with fail
      refine HLF.out.mono ?_
      rintro e w5 ⟨rfl, h5⟩
      have Z5 := Lib.hid (Z0.out.to h5)
      clear h5
      have f0 := Z5.out.res.free 0
      have e0 := Z5.out.res.c0
      have e1 := Z5.out.res.c1
      have S0 := Z5.out.res.set0 (.string rs)
      have S1 := S0.set1 (.string rt)
      have f1 := S0.free 1
      have g1 := S0.c1
      have u0 := S1.c0
      have u1 := S1.c1
      have HBE := Lib.hid ((Z5.out.below.setCell (p := ⟨w.heap.size + 1 + 1, 0, none⟩) (by show w.heap.size ≤ w.heap.size + 1 + 1; omega) (.string rs)).setCell (p := ⟨w.heap.size + 1 + 1, 1, none⟩) (by show w.heap.size ≤ w.heap.size + 1 + 1; omega) (.string rt))
      clear S0 S1
      go_wp2_with fail
      (try simp only [Exit.inBlock, Exit.then])
      refine bodyPost_ret (v := .tuple #[ratV rs rt, .bool true]) ?_ rfl ⟨⟨true, rfl⟩, HBE.out⟩
      rw [results_cell_tmp rfl]
      go_simp
end Go.Proofs.YtgkfdgdlmpggpaaGreatDoor
