/-
  Texts of one seat, joined: YQk YClo YEi.
-/
import Derived.Test.YtdgbplppabalgaaGreatDoorJ17
import Derived.Test.YtdgbplppabalgaaGreatDoorJ14
import Derived.Deep.Cut
import Derived.Test.YtdgbplppabalgaaGreatDoorJ5
import Derived.Test.YtdgbplppabalgaaGreatDoorJ6
import Derived.Test.YtdgbplppabalgaaGreatDoorJ4
import Derived.Deep.RegionHeld3
namespace Go.Proofs.YtdgbplppabalgaaGreatDoor
open Go.RowKit

abbrev rtV (n d : Int) : Value := .agg #[.int .i64 n, .int .i64 d]
abbrev rtO (n d : Int) : Obj := .cells #[.int .i64 n, .int .i64 d] 78
/-- two boxes of small fractions and the cell of a fraction -/
structure Br (w W : World) (n1 d1 n2 d2 : Int) : Prop where
  below : Below w.heap.size w W
  one : BxT W w.heap.size w.heap.size 78 (.int .i64 n1) (.int .i64 d1)
  two : BxT W w.heap.size (w.heap.size + 1) 78 (.int .i64 n2) (.int .i64 d2)
  res : BxT W w.heap.size (w.heap.size + 1 + 1) 24 (.string ⟨#[]⟩) (.string ⟨#[]⟩)
theorem Br.to {w W W' : World} {n1 d1 n2 d2 : Int} (h : Br w W n1 d1 n2 d2) (hb : Below W.heap.size W W') : Br w W' n1 d1 n2 d2 := ⟨h.below.trans (hb.mono h.below.size), h.one.kept hb, h.two.kept hb, h.res.kept hb⟩
theorem BxT.allocY {w : World} {B g : Nat} {T : TypeId} {u v : Value} (h : BxT w B g T u v) (o : Obj) : BxT (w.alloc o) B g T u v := World.ownsRow.alloc h o
theorem Br.new (w : World) (n1 d1 n2 d2 : Int) : Br w (((w.alloc (rtO n1 d1)).alloc (rtO n2 d2)).alloc (.cells #[.string ⟨#[]⟩, .string ⟨#[]⟩] 24)) n1 d1 n2 d2 := by
  have h1 := BxT.new (w.alloc (rtO n1 d1)) w.heap.size (by rw [push_size]; omega) 78 (.int .i64 n2) (.int .i64 d2)
  have h2 := BxT.new ((w.alloc (rtO n1 d1)).alloc (rtO n2 d2)) w.heap.size (by rw [push_size, push_size]; omega) 24 (.string ⟨#[]⟩) (.string ⟨#[]⟩)
  rw [push_size] at h1
  rw [push_size, push_size] at h2
  exact ⟨(((Below.refl _ w).alloc (Nat.le_refl _) _).alloc (by rw [push_size]; omega) _).alloc (by rw [push_size, push_size]; omega) _, ((BxT.new w w.heap.size (Nat.le_refl _) 78 (.int .i64 n1) (.int .i64 d1)).allocY _).allocY _, h1.allocY _, h2⟩
theorem fit_lt {x y : Int} (h : fitF x y = true) : -4611686018427387904 < x * y ∧ x * y < 4611686018427387904 := by
  have h1 := of_decide_eq_true h
  rw [← Int.natAbs_mul] at h1
  omega
set_option maxHeartbeats 3200000 in
set_option maxRecDepth 100000 in
theorem addFew_any (n1 d1 n2 d2 : Int) (w : World) (hs : Std w) (h1 : fewOk n1 d1) (h2 : fewOk n2 d2) :
    Calls Tryz.prog 94 #[rtV n1 d1, rtV n2 d2] w fun e w' => (∃ ok : Bool, e = .returned (.tuple #[ratV (if ok = true then zS (lowN (n1 * d2 + n2 * d1) (d1 * d2).natAbs) else ⟨#[]⟩) (if ok = true then str (lowD (n1 * d2 + n2 * d1) (d1 * d2).natAbs) else ⟨#[]⟩), .bool ok])) ∧ Below w.heap.size w w' := by
  obtain ⟨a1, a2, a3, a4⟩ := h1
  obtain ⟨c1, c2, c3, c4⟩ := h2
  have hdp : 0 < d1 * d2 := Int.mul_pos a3 c3
  have HT0 := Lib.hid (fun wx => timesF_any n1 d2 wx (by omega) (by omega) (by omega) (by omega))
  have HT1 := Lib.hid (fun wx => timesF_any n2 d1 wx (by omega) (by omega) (by omega) (by omega))
  have HT2 := Lib.hid (fun wx => timesF_any d1 d2 wx (by omega) (by omega) (by omega) (by omega))
  have HX0 := Br.new w n1 d1 n2 d2
  have HS := Lib.hid hs
  have HDP := Lib.hid hdp
  clear hs hdp
  have HF0 := Lib.hid (fun (h : fitF n1 d2 = true) => fit_lt h)
  obtain ⟨F0, hF0⟩ : ∃ F, F = fitF n1 d2 := ⟨_, rfl⟩
  rw [← hF0] at HT0 HF0
  have HF1 := Lib.hid (fun (h : fitF n2 d1 = true) => fit_lt h)
  obtain ⟨F1, hF1⟩ : ∃ F, F = fitF n2 d1 := ⟨_, rfl⟩
  rw [← hF1] at HT1 HF1
  have HF2 := Lib.hid (fun (h : fitF d1 d2 = true) => fit_lt h)
  obtain ⟨F2, hF2⟩ : ∃ F, F = fitF d1 d2 := ⟨_, rfl⟩
  rw [← hF2] at HT2 HF2
  clear hF0 hF1 hF2
  obtain ⟨rs, hrs⟩ : ∃ s, s = zS (lowN (n1 * d2 + n2 * d1) (d1 * d2).natAbs) := ⟨_, rfl⟩
  obtain ⟨rt, hrt⟩ : ∃ s, s = str (lowD (n1 * d2 + n2 * d1) (d1 * d2).natAbs) := ⟨_, rfl⟩
  have HRS := Lib.hid hrs
  have HRT := Lib.hid hrt
  rw [← hrs, ← hrt]
  clear hrs hrt
  cases F0 with
  | false =>
    cases F1 <;> cases F2
    all_goals (
      go_enter Tryz.func94, Tryz.ntmps94
      go_upto_region 1 with fail
      obtain ⟨W0, hW0⟩ : ∃ W0, W0 = ((w.alloc (rtO n1 d1)).alloc (rtO n2 d2)).alloc (.cells #[.string ⟨#[]⟩, .string ⟨#[]⟩] 24) := ⟨_, rfl⟩
      rw [← hW0] at HX0 ⊢
      clear hW0
      have k1 := HX0.one.c0
      have k2 := HX0.one.c1
      have k3 := HX0.two.c0
      have k4 := HX0.two.c1
      have Z0 := Lib.hid HX0
      clear HX0
      go_wp2_with fail
      refine (HT0.out _).mono ?_
      rintro e w1 ⟨⟨v0, rfl, hv0⟩, rfl⟩
      have HV0 := Lib.hid hv0
      clear hv0
      go_wp2_with fail
      refine (HT1.out _).mono ?_
      rintro e w2 ⟨⟨v1, rfl, hv1⟩, rfl⟩
      have HV1 := Lib.hid hv1
      clear hv1
      go_wp2_with fail
      refine (HT2.out _).mono ?_
      rintro e w3 ⟨⟨v2, rfl, hv2⟩, rfl⟩
      have HV2 := Lib.hid hv2
      clear hv2
      clear k1 k2 k3 k4
      have f0 := Z0.out.res.free 0
      have e0 := Z0.out.res.c0
      have e1 := Z0.out.res.c1
      have S0 := Z0.out.res.set0 (.string ⟨#[]⟩)
      have S1 := S0.set1 (.string ⟨#[]⟩)
      have f1 := S0.free 1
      have g1 := S0.c1
      have u0 := S1.c0
      have u1 := S1.c1
      have HBE := Lib.hid ((Z0.out.below.setCell (p := ⟨w.heap.size + 1 + 1, 0, none⟩) (by show w.heap.size ≤ w.heap.size + 1 + 1; omega) (.string ⟨#[]⟩)).setCell (p := ⟨w.heap.size + 1 + 1, 1, none⟩) (by show w.heap.size ≤ w.heap.size + 1 + 1; omega) (.string ⟨#[]⟩))
      clear S0 S1
      go_wp2_with fail
      (try simp only [Exit.inBlock, Exit.then])
      refine bodyPost_ret (v := .tuple #[ratV ⟨#[]⟩ ⟨#[]⟩, .bool false]) ?_ rfl ⟨⟨false, rfl⟩, HBE.out⟩
      rw [results_cell_tmp rfl]
      go_simp)
  | true =>
    cases F1 with
    | false =>
      cases F2
      all_goals (
        go_enter Tryz.func94, Tryz.ntmps94
        go_upto_region 1 with fail
        obtain ⟨W0, hW0⟩ : ∃ W0, W0 = ((w.alloc (rtO n1 d1)).alloc (rtO n2 d2)).alloc (.cells #[.string ⟨#[]⟩, .string ⟨#[]⟩] 24) := ⟨_, rfl⟩
        rw [← hW0] at HX0 ⊢
        clear hW0
        have k1 := HX0.one.c0
        have k2 := HX0.one.c1
        have k3 := HX0.two.c0
        have k4 := HX0.two.c1
        have Z0 := Lib.hid HX0
        clear HX0
        go_wp2_with fail
        refine (HT0.out _).mono ?_
        rintro e w1 ⟨⟨v0, rfl, hv0⟩, rfl⟩
        have HV0 := Lib.hid hv0
        clear hv0
        go_wp2_with fail
        refine (HT1.out _).mono ?_
        rintro e w2 ⟨⟨v1, rfl, hv1⟩, rfl⟩
        have HV1 := Lib.hid hv1
        clear hv1
        go_wp2_with fail
        refine (HT2.out _).mono ?_
        rintro e w3 ⟨⟨v2, rfl, hv2⟩, rfl⟩
        have HV2 := Lib.hid hv2
        clear hv2
        clear k1 k2 k3 k4
        have f0 := Z0.out.res.free 0
        have e0 := Z0.out.res.c0
        have e1 := Z0.out.res.c1
        have S0 := Z0.out.res.set0 (.string ⟨#[]⟩)
        have S1 := S0.set1 (.string ⟨#[]⟩)
        have f1 := S0.free 1
        have g1 := S0.c1
        have u0 := S1.c0
        have u1 := S1.c1
        have HBE := Lib.hid ((Z0.out.below.setCell (p := ⟨w.heap.size + 1 + 1, 0, none⟩) (by show w.heap.size ≤ w.heap.size + 1 + 1; omega) (.string ⟨#[]⟩)).setCell (p := ⟨w.heap.size + 1 + 1, 1, none⟩) (by show w.heap.size ≤ w.heap.size + 1 + 1; omega) (.string ⟨#[]⟩))
        clear S0 S1
        go_wp2_with fail
        (try simp only [Exit.inBlock, Exit.then])
        refine bodyPost_ret (v := .tuple #[ratV ⟨#[]⟩ ⟨#[]⟩, .bool false]) ?_ rfl ⟨⟨false, rfl⟩, HBE.out⟩
        rw [results_cell_tmp rfl]
        go_simp)
    | true =>
      cases F2 with
      | false =>
        go_enter Tryz.func94, Tryz.ntmps94
        go_upto_region 1 with fail
        obtain ⟨W0, hW0⟩ : ∃ W0, W0 = ((w.alloc (rtO n1 d1)).alloc (rtO n2 d2)).alloc (.cells #[.string ⟨#[]⟩, .string ⟨#[]⟩] 24) := ⟨_, rfl⟩
        rw [← hW0] at HX0 ⊢
        clear hW0
        have k1 := HX0.one.c0
        have k2 := HX0.one.c1
        have k3 := HX0.two.c0
        have k4 := HX0.two.c1
        have Z0 := Lib.hid HX0
        clear HX0
        go_wp2_with fail
        refine (HT0.out _).mono ?_
        rintro e w1 ⟨⟨v0, rfl, hv0⟩, rfl⟩
        have HV0 := Lib.hid hv0
        clear hv0
        go_wp2_with fail
        refine (HT1.out _).mono ?_
        rintro e w2 ⟨⟨v1, rfl, hv1⟩, rfl⟩
        have HV1 := Lib.hid hv1
        clear hv1
        go_wp2_with fail
        refine (HT2.out _).mono ?_
        rintro e w3 ⟨⟨v2, rfl, hv2⟩, rfl⟩
        have HV2 := Lib.hid hv2
        clear hv2
        clear k1 k2 k3 k4
        have f0 := Z0.out.res.free 0
        have e0 := Z0.out.res.c0
        have e1 := Z0.out.res.c1
        have S0 := Z0.out.res.set0 (.string ⟨#[]⟩)
        have S1 := S0.set1 (.string ⟨#[]⟩)
        have f1 := S0.free 1
        have g1 := S0.c1
        have u0 := S1.c0
        have u1 := S1.c1
        have HBE := Lib.hid ((Z0.out.below.setCell (p := ⟨w.heap.size + 1 + 1, 0, none⟩) (by show w.heap.size ≤ w.heap.size + 1 + 1; omega) (.string ⟨#[]⟩)).setCell (p := ⟨w.heap.size + 1 + 1, 1, none⟩) (by show w.heap.size ≤ w.heap.size + 1 + 1; omega) (.string ⟨#[]⟩))
        clear S0 S1
        go_wp2_with fail
        (try simp only [Exit.inBlock, Exit.then])
        refine bodyPost_ret (v := .tuple #[ratV ⟨#[]⟩ ⟨#[]⟩, .bool false]) ?_ rfl ⟨⟨false, rfl⟩, HBE.out⟩
        rw [results_cell_tmp rfl]
        go_simp
      | true =>
        go_enter Tryz.func94, Tryz.ntmps94
        go_upto_region 1 with fail
        obtain ⟨W0, hW0⟩ : ∃ W0, W0 = ((w.alloc (rtO n1 d1)).alloc (rtO n2 d2)).alloc (.cells #[.string ⟨#[]⟩, .string ⟨#[]⟩] 24) := ⟨_, rfl⟩
        rw [← hW0] at HX0 ⊢
        clear hW0
        have k1 := HX0.one.c0
        have k2 := HX0.one.c1
        have k3 := HX0.two.c0
        have k4 := HX0.two.c1
        have Z0 := Lib.hid HX0
        clear HX0
        go_wp2_with fail
        refine (HT0.out _).mono ?_
        rintro e w1 ⟨⟨v0, rfl, hv0⟩, rfl⟩
        have HV0 := Lib.hid hv0
        clear hv0
        go_wp2_with fail
        refine (HT1.out _).mono ?_
        rintro e w2 ⟨⟨v1, rfl, hv1⟩, rfl⟩
        have HV1 := Lib.hid hv1
        clear hv1
        go_wp2_with fail
        refine (HT2.out _).mono ?_
        rintro e w3 ⟨⟨v2, rfl, hv2⟩, rfl⟩
        have HV2 := Lib.hid hv2
        clear hv2
        have hw0 := HV0.out (by first | trivial | rfl)
        have hb0 := HF0.out (by first | trivial | rfl)
        rw [← hw0] at hb0
        have hw1 := HV1.out (by first | trivial | rfl)
        have hb1 := HF1.out (by first | trivial | rfl)
        rw [← hw1] at hb1
        have hw2 := HV2.out (by first | trivial | rfl)
        have hb2 := HF2.out (by first | trivial | rfl)
        rw [← hw2] at hb2
        have hsum := IntWalk.i64_in (v0 + v1) ⟨by omega, by omega⟩
        have hvp : 0 < v2 := by rw [hw2]; exact HDP.out
        have HLF := Lib.hid (lowF_any (v0 + v1) v2 W0 (HS.out.below Z0.out.below) hvp (by omega) (by omega) (by omega))
        rw [hw0, hw1, hw2, ← HRS.out, ← HRT.out] at HLF
        rw [← hw0, ← hw1, ← hw2] at HLF
        clear HV0 HV1 HV2 hb0 hb1 hb2 hw0 hw1 hw2 hvp k1 k2 k3 k4
        go_wp2_with fail
        refine HLF.out.mono ?_
        rintro e w5 ⟨rfl, h5⟩
        have Z5 := Lib.hid (Z0.out.to h5)
        clear h5
        have f0 := Z5.out.res.free 0
        have e0 := Z5.out.res.c0
        have e1 := Z5.out.res.c1
        have S0 := Z5.out.res.set0 (.string rs)
        have S1 := S0.set1 (.string rt)
        have f1 := S0.free 1
        have g1 := S0.c1
        have u0 := S1.c0
        have u1 := S1.c1
        have HBE := Lib.hid ((Z5.out.below.setCell (p := ⟨w.heap.size + 1 + 1, 0, none⟩) (by show w.heap.size ≤ w.heap.size + 1 + 1; omega) (.string rs)).setCell (p := ⟨w.heap.size + 1 + 1, 1, none⟩) (by show w.heap.size ≤ w.heap.size + 1 + 1; omega) (.string rt))
        clear S0 S1
        go_wp2_with fail
        (try simp only [Exit.inBlock, Exit.then])
        refine bodyPost_ret (v := .tuple #[ratV rs rt, .bool true]) ?_ rfl ⟨⟨true, rfl⟩, HBE.out⟩
        rw [results_cell_tmp rfl]
        go_simp
set_option maxHeartbeats 3200000 in
set_option maxRecDepth 100000 in
theorem mulFew_any (n1 d1 n2 d2 : Int) (w : World) (hs : Std w) (h1 : fewOk n1 d1) (h2 : fewOk n2 d2) :
    Calls Tryz.prog 99 #[rtV n1 d1, rtV n2 d2] w fun e w' => (∃ ok : Bool, e = .returned (.tuple #[ratV (if ok = true then zS (lowN (n1 * n2) (d1 * d2).natAbs) else ⟨#[]⟩) (if ok = true then str (lowD (n1 * n2) (d1 * d2).natAbs) else ⟨#[]⟩), .bool ok])) ∧ Below w.heap.size w w' := by
  obtain ⟨a1, a2, a3, a4⟩ := h1
  obtain ⟨c1, c2, c3, c4⟩ := h2
  have hdp : 0 < d1 * d2 := Int.mul_pos a3 c3
  have HT0 := Lib.hid (fun wx => timesF_any n1 n2 wx (by omega) (by omega) (by omega) (by omega))
  have HT1 := Lib.hid (fun wx => timesF_any d1 d2 wx (by omega) (by omega) (by omega) (by omega))
  have HX0 := Br.new w n1 d1 n2 d2
  have HS := Lib.hid hs
  have HDP := Lib.hid hdp
  clear hs hdp
  have HF0 := Lib.hid (fun (h : fitF n1 n2 = true) => fit_lt h)
  obtain ⟨F0, hF0⟩ : ∃ F, F = fitF n1 n2 := ⟨_, rfl⟩
  rw [← hF0] at HT0 HF0
  have HF1 := Lib.hid (fun (h : fitF d1 d2 = true) => fit_lt h)
  obtain ⟨F1, hF1⟩ : ∃ F, F = fitF d1 d2 := ⟨_, rfl⟩
  rw [← hF1] at HT1 HF1
  clear hF0 hF1
  obtain ⟨rs, hrs⟩ : ∃ s, s = zS (lowN (n1 * n2) (d1 * d2).natAbs) := ⟨_, rfl⟩
  obtain ⟨rt, hrt⟩ : ∃ s, s = str (lowD (n1 * n2) (d1 * d2).natAbs) := ⟨_, rfl⟩
  have HRS := Lib.hid hrs
  have HRT := Lib.hid hrt
  rw [← hrs, ← hrt]
  clear hrs hrt
  cases F0 with
  | false =>
    cases F1
    all_goals (
      go_enter Tryz.func99, Tryz.ntmps99
      go_upto_region 1 with fail
      obtain ⟨W0, hW0⟩ : ∃ W0, W0 = ((w.alloc (rtO n1 d1)).alloc (rtO n2 d2)).alloc (.cells #[.string ⟨#[]⟩, .string ⟨#[]⟩] 24) := ⟨_, rfl⟩
      rw [← hW0] at HX0 ⊢
      clear hW0
      have k1 := HX0.one.c0
      have k2 := HX0.one.c1
      have k3 := HX0.two.c0
      have k4 := HX0.two.c1
      have Z0 := Lib.hid HX0
      clear HX0
      go_wp2_with fail
      refine (HT0.out _).mono ?_
      rintro e w1 ⟨⟨v0, rfl, hv0⟩, rfl⟩
      have HV0 := Lib.hid hv0
      clear hv0
      go_wp2_with fail
      refine (HT1.out _).mono ?_
      rintro e w2 ⟨⟨v1, rfl, hv1⟩, rfl⟩
      have HV1 := Lib.hid hv1
      clear hv1
      clear k1 k2 k3 k4
      have f0 := Z0.out.res.free 0
      have e0 := Z0.out.res.c0
      have e1 := Z0.out.res.c1
      have S0 := Z0.out.res.set0 (.string ⟨#[]⟩)
      have S1 := S0.set1 (.string ⟨#[]⟩)
      have f1 := S0.free 1
      have g1 := S0.c1
      have u0 := S1.c0
      have u1 := S1.c1
      have HBE := Lib.hid ((Z0.out.below.setCell (p := ⟨w.heap.size + 1 + 1, 0, none⟩) (by show w.heap.size ≤ w.heap.size + 1 + 1; omega) (.string ⟨#[]⟩)).setCell (p := ⟨w.heap.size + 1 + 1, 1, none⟩) (by show w.heap.size ≤ w.heap.size + 1 + 1; omega) (.string ⟨#[]⟩))
      clear S0 S1
      go_wp2_with fail
      (try simp only [Exit.inBlock, Exit.then])
      refine bodyPost_ret (v := .tuple #[ratV ⟨#[]⟩ ⟨#[]⟩, .bool false]) ?_ rfl ⟨⟨false, rfl⟩, HBE.out⟩
      rw [results_cell_tmp rfl]
      go_simp)
  | true =>
    cases F1 with
    | false =>
      go_enter Tryz.func99, Tryz.ntmps99
      go_upto_region 1 with fail
      obtain ⟨W0, hW0⟩ : ∃ W0, W0 = ((w.alloc (rtO n1 d1)).alloc (rtO n2 d2)).alloc (.cells #[.string ⟨#[]⟩, .string ⟨#[]⟩] 24) := ⟨_, rfl⟩
      rw [← hW0] at HX0 ⊢
      clear hW0
      have k1 := HX0.one.c0
      have k2 := HX0.one.c1
      have k3 := HX0.two.c0
      have k4 := HX0.two.c1
      have Z0 := Lib.hid HX0
      clear HX0
      go_wp2_with fail
      refine (HT0.out _).mono ?_
      rintro e w1 ⟨⟨v0, rfl, hv0⟩, rfl⟩
      have HV0 := Lib.hid hv0
      clear hv0
      go_wp2_with fail
      refine (HT1.out _).mono ?_
      rintro e w2 ⟨⟨v1, rfl, hv1⟩, rfl⟩
      have HV1 := Lib.hid hv1
      clear hv1
      clear k1 k2 k3 k4
      have f0 := Z0.out.res.free 0
      have e0 := Z0.out.res.c0
      have e1 := Z0.out.res.c1
      have S0 := Z0.out.res.set0 (.string ⟨#[]⟩)
      have S1 := S0.set1 (.string ⟨#[]⟩)
      have f1 := S0.free 1
      have g1 := S0.c1
      have u0 := S1.c0
      have u1 := S1.c1
      have HBE := Lib.hid ((Z0.out.below.setCell (p := ⟨w.heap.size + 1 + 1, 0, none⟩) (by show w.heap.size ≤ w.heap.size + 1 + 1; omega) (.string ⟨#[]⟩)).setCell (p := ⟨w.heap.size + 1 + 1, 1, none⟩) (by show w.heap.size ≤ w.heap.size + 1 + 1; omega) (.string ⟨#[]⟩))
      clear S0 S1
      go_wp2_with fail
      (try simp only [Exit.inBlock, Exit.then])
      refine bodyPost_ret (v := .tuple #[ratV ⟨#[]⟩ ⟨#[]⟩, .bool false]) ?_ rfl ⟨⟨false, rfl⟩, HBE.out⟩
      rw [results_cell_tmp rfl]
      go_simp
    | true =>
      go_enter Tryz.func99, Tryz.ntmps99
      go_upto_region 1 with fail
      obtain ⟨W0, hW0⟩ : ∃ W0, W0 = ((w.alloc (rtO n1 d1)).alloc (rtO n2 d2)).alloc (.cells #[.string ⟨#[]⟩, .string ⟨#[]⟩] 24) := ⟨_, rfl⟩
      rw [← hW0] at HX0 ⊢
      clear hW0
      have k1 := HX0.one.c0
      have k2 := HX0.one.c1
      have k3 := HX0.two.c0
      have k4 := HX0.two.c1
      have Z0 := Lib.hid HX0
      clear HX0
      go_wp2_with fail
      refine (HT0.out _).mono ?_
      rintro e w1 ⟨⟨v0, rfl, hv0⟩, rfl⟩
      have HV0 := Lib.hid hv0
      clear hv0
      go_wp2_with fail
      refine (HT1.out _).mono ?_
      rintro e w2 ⟨⟨v1, rfl, hv1⟩, rfl⟩
      have HV1 := Lib.hid hv1
      clear hv1
      have hw0 := HV0.out (by first | trivial | rfl)
      have hb0 := HF0.out (by first | trivial | rfl)
      rw [← hw0] at hb0
      have hw1 := HV1.out (by first | trivial | rfl)
      have hb1 := HF1.out (by first | trivial | rfl)
      rw [← hw1] at hb1
      have hvp : 0 < v1 := by rw [hw1]; exact HDP.out
      have HLF := Lib.hid (lowF_any v0 v1 W0 (HS.out.below Z0.out.below) hvp (by omega) (by omega) (by omega))
      rw [hw0, hw1, ← HRS.out, ← HRT.out] at HLF
      rw [← hw0, ← hw1] at HLF
      clear HV0 HV1 hb0 hb1 hw0 hw1 hvp k1 k2 k3 k4
      go_wp2_with fail
      refine HLF.out.mono ?_
      rintro e w5 ⟨rfl, h5⟩
      have Z5 := Lib.hid (Z0.out.to h5)
      clear h5
      have f0 := Z5.out.res.free 0
      have e0 := Z5.out.res.c0
      have e1 := Z5.out.res.c1
      have S0 := Z5.out.res.set0 (.string rs)
      have S1 := S0.set1 (.string rt)
      have f1 := S0.free 1
      have g1 := S0.c1
      have u0 := S1.c0
      have u1 := S1.c1
      have HBE := Lib.hid ((Z5.out.below.setCell (p := ⟨w.heap.size + 1 + 1, 0, none⟩) (by show w.heap.size ≤ w.heap.size + 1 + 1; omega) (.string rs)).setCell (p := ⟨w.heap.size + 1 + 1, 1, none⟩) (by show w.heap.size ≤ w.heap.size + 1 + 1; omega) (.string rt))
      clear S0 S1
      go_wp2_with fail
      (try simp only [Exit.inBlock, Exit.then])
      refine bodyPost_ret (v := .tuple #[ratV rs rt, .bool true]) ?_ rfl ⟨⟨true, rfl⟩, HBE.out⟩
      rw [results_cell_tmp rfl]
      go_simp
end Go.Proofs.YtdgbplppabalgaaGreatDoor

namespace Go.Proofs.YtdgbplppabalgaaGreatDoor
open Go.RowKit

theorem zsz_add2 {a b : Int} {k : Nat} (ha : (str a.natAbs).size ≤ k) (hb : (str b.natAbs).size ≤ k) (hk : 0 < k) : (str (a + b).natAbs).size ≤ k + 1 := zsz_le (zsz_add ha hb hk) (Int.natAbs_add_le a b)
theorem zsz_mul2 {a b : Int} {k : Nat} (ha : (str a.natAbs).size ≤ k) (hb : (str b.natAbs).size ≤ k) (hk : 0 < k) : (str (a * b).natAbs).size ≤ k + k := by rw [Int.natAbs_mul]; exact zsz_mul ha hb hk
set_option maxHeartbeats 3200000 in
set_option maxRecDepth 100000 in
theorem addClo_any (n1 d1 n2 d2 : Int) (ga gb : Nat) (w : World) (hs : Std w) (hA : BxR w ga (zS n1) (zS d1)) (hB : BxR w gb (zS n2) (zS d2)) (h1 : (str n1.natAbs).size ≤ 10000) (h2 : (str d1.natAbs).size ≤ 10000) (h3 : (str n2.natAbs).size ≤ 10000) (h4 : (str d2.natAbs).size ≤ 10000) (p1 : 0 < d1) (p2 : 0 < d2) :
    Calls Tryz.prog 95 #[.pointer (some ⟨ga, 0, none⟩), .pointer (some ⟨gb, 0, none⟩)] w fun e w' => e = .returned (ratV (zS (lowN (n1 * d2 + n2 * d1) (d1 * d2).natAbs)) (str (lowD (n1 * d2 + n2 * d1) (d1 * d2).natAbs))) ∧ Below w.heap.size w w' := by
  have HM1 := Lib.hid (fun wx hw => mulW_any n1 d2 wx hw (by omega) (by omega))
  have HM2 := Lib.hid (fun wx hw => mulW_any n2 d1 wx hw (by omega) (by omega))
  have HM3 := Lib.hid (fun wx hw => mulW_any d1 d2 wx hw (by omega) (by omega))
  have z1 := zsz_mul2 h1 h4 (by omega)
  have z2 := zsz_mul2 h3 h2 (by omega)
  have z3 := zsz_mul2 h2 h4 (by omega)
  have z4 := zsz_add2 z1 z2 (by omega)
  have HAD := Lib.hid (fun wx hw => addW_any (n1 * d2) (n2 * d1) wx hw (by omega) (by omega))
  have HLW := Lib.hid (fun wx hw => lowestF_any (n1 * d2 + n2 * d1) (d1 * d2) wx hw (Int.mul_pos p1 p2) (by omega) (by omega))
  obtain ⟨s1, hs1⟩ : ∃ s, s = zS n1 := ⟨_, rfl⟩
  obtain ⟨t1, ht1⟩ : ∃ s, s = zS d1 := ⟨_, rfl⟩
  obtain ⟨s2, hs2⟩ : ∃ s, s = zS n2 := ⟨_, rfl⟩
  obtain ⟨t2, ht2⟩ : ∃ s, s = zS d2 := ⟨_, rfl⟩
  obtain ⟨m1, hm1⟩ : ∃ s, s = zS (n1 * d2) := ⟨_, rfl⟩
  obtain ⟨m2, hm2⟩ : ∃ s, s = zS (n2 * d1) := ⟨_, rfl⟩
  obtain ⟨m3, hm3⟩ : ∃ s, s = zS (d1 * d2) := ⟨_, rfl⟩
  obtain ⟨m4, hm4⟩ : ∃ s, s = zS (n1 * d2 + n2 * d1) := ⟨_, rfl⟩
  obtain ⟨rs, hrs⟩ : ∃ s, s = zS (lowN (n1 * d2 + n2 * d1) (d1 * d2).natAbs) := ⟨_, rfl⟩
  obtain ⟨rt, hrt⟩ : ∃ s, s = str (lowD (n1 * d2 + n2 * d1) (d1 * d2).natAbs) := ⟨_, rfl⟩
  rw [← hs1, ← ht1] at hA
  rw [← hs2, ← ht2] at hB
  rw [← hs1, ← ht2, ← hm1] at HM1
  rw [← hs2, ← ht1, ← hm2] at HM2
  rw [← ht1, ← ht2, ← hm3] at HM3
  rw [← hm1, ← hm2, ← hm4] at HAD
  rw [← hm4, ← hm3, ← hrs, ← hrt] at HLW
  rw [← hrs, ← hrt]
  have HS := Lib.hid hs
  have HA := Lib.hid hA
  have HB := Lib.hid hB
  have HZ := Lib.hid (Bz.new w)
  clear hs hA hB h1 h2 h3 h4 p1 p2 z1 z2 z3 z4 hs1 ht1 hs2 ht2 hm1 hm2 hm3 hm4 hrs hrt
  go_enter Tryz.func95, Tryz.ntmps95
  go_upto_region 1 with fail
  obtain ⟨W0, hW0⟩ : ∃ W0, W0 = w.alloc (.cells #[.string ⟨#[]⟩, .string ⟨#[]⟩] 24) := ⟨_, rfl⟩
  rw [← hW0] at HZ ⊢
  clear hW0
  have Y0 := Lib.hid (HZ.out.below.trans ((Below.drew (Below.refl W0.heap.size W0)).mono HZ.out.below.size))
  have X0 := Lib.hid (HZ.out.to (Below.drew (Below.refl W0.heap.size W0)))
  have A0 := Lib.hid (HA.out.below Y0.out)
  have B0 := Lib.hid (HB.out.below Y0.out)
  go_region_held3 (fun W => W.cell? ⟨ga, 0, none⟩ = some (.string s1) ∧ W.cell? ⟨ga, 1, none⟩ = some (.string t1) ∧ W.cell? ⟨gb, 0, none⟩ = some (.string s2) ∧ W.cell? ⟨gb, 1, none⟩ = some (.string t2)) (first | exact ⟨A3.out.num, A3.out.den, B3.out.num, B3.out.den⟩ | exact ⟨A2.out.num, A2.out.den, B2.out.num, B2.out.den⟩ | exact ⟨A1.out.num, A1.out.den, B1.out.num, B1.out.den⟩ | exact ⟨A0.out.num, A0.out.den, B0.out.num, B0.out.den⟩) (first | (go_at_call 96; have g0 := Y2.out; refine (HAD.out _ ?hss).mono ?_; (case hss => exact HS.out.below g0); rintro e w3 ⟨rfl, h3⟩; have Y3 := Lib.hid (g0.trans (h3.mono g0.size)); have A3 := Lib.hid (A2.out.below h3); have B3 := Lib.hid (B2.out.below h3); have HT3 := Lib.hid (show Below W0.drew.heap.size W0.drew w3 from HT2.out.trans (h3.mono HT2.out.size)); clear h3 g0) | (go_at_call 97; have g0 := Y1.out; refine (HM2.out _ ?hss).mono ?_; (case hss => exact HS.out.below g0); rintro e w2 ⟨rfl, h2⟩; have Y2 := Lib.hid (g0.trans (h2.mono g0.size)); have A2 := Lib.hid (A1.out.below h2); have B2 := Lib.hid (B1.out.below h2); have HT2 := Lib.hid (show Below W0.drew.heap.size W0.drew w2 from HT1.out.trans (h2.mono HT1.out.size)); clear h2 g0) | (go_at_call 97; have g0 := Y0.out; refine (HM1.out _ ?hss).mono ?_; (case hss => exact HS.out.below g0); rintro e w1 ⟨rfl, h1⟩; have Y1 := Lib.hid (g0.trans (h1.mono g0.size)); have A1 := Lib.hid (A0.out.below h1); have B1 := Lib.hid (B0.out.below h1); have HT1 := Lib.hid (show Below W0.drew.heap.size W0.drew w1 from h1); clear h1 g0))
  have X3 := Lib.hid (X0.out.to (HT3.out))
  have c1 := A3.out.den
  have c2 := B3.out.den
  go_wp2_with fail
  refine (HM3.out _ (HS.out.below Y3.out)).mono ?_
  rintro e w4 ⟨rfl, h4⟩
  have X4 := Lib.hid (X3.out.to h4)
  clear h4 c1 c2
  go_wp2_with fail
  refine (HLW.out _ (HS.out.below X4.out.below)).mono ?_
  rintro e w5 ⟨rfl, h5⟩
  have X5 := Lib.hid (X4.out.to h5)
  clear h5
  have hlt := X5.out.res.lt.2
  have A := BxT.new w5 w.heap.size X5.out.below.size 24 (.string rs) (.string rt)
  have cc0 := A.c0
  have cc1 := A.c1
  have R1 := X5.out.res.alloc (.cells #[.string rs, .string rt] 24)
  have D1 := X5.out.below.alloc X5.out.below.size (.cells #[.string rs, .string rt] 24)
  have f0 := R1.free 0
  have e0 := R1.c0
  have e1 := R1.c1
  have S0 := R1.set0 (.string rs)
  have S1 := S0.set1 (.string rt)
  have f1 := S0.free 1
  have g1 := S0.c1
  have u0 := S1.c0
  have u1 := S1.c1
  have T0 := X5.out.res.set0 (.string rs)
  have T1 := T0.set1 (.string rt)
  have f0b := X5.out.res.free 0
  have e0b := X5.out.res.c0
  have e1b := X5.out.res.c1
  have f1b := T0.free 1
  have g1b := T0.c1
  have u0b := T1.c0
  have u1b := T1.c1
  have hE := (X5.out.below.setCell (p := ⟨w.heap.size, 0, none⟩) (Nat.le_refl _) (.string rs)).setCell (p := ⟨w.heap.size, 1, none⟩) (Nat.le_refl _) (.string rt)
  have HBE := Lib.hid (hE.alloc hE.size (.cells #[.string rs, .string rt] 24))
  clear hE
  clear S0 S1 A R1 D1 T0 T1
  go_wp2_with fail
  (try simp only [Exit.inBlock, Exit.then])
  refine bodyPost_ret (v := ratV rs rt) ?_ rfl ⟨rfl, HBE.out⟩
  rw [results_cell_one rfl]
  go_simp
set_option maxHeartbeats 3200000 in
set_option maxRecDepth 100000 in
theorem cmpClo_any (n1 d1 n2 d2 : Int) (ga gb : Nat) (w : World) (hs : Std w) (hA : BxR w ga (zS n1) (zS d1)) (hB : BxR w gb (zS n2) (zS d2)) (h1 : (str n1.natAbs).size ≤ 10000) (h2 : (str d1.natAbs).size ≤ 10000) (h3 : (str n2.natAbs).size ≤ 10000) (h4 : (str d2.natAbs).size ≤ 10000) :
    Calls Tryz.prog 104 #[.pointer (some ⟨ga, 0, none⟩), .pointer (some ⟨gb, 0, none⟩)] w fun e w' => e = .returned (.int .i64 (cmpZ (n1 * d2) (n2 * d1))) ∧ Below w.heap.size w w' := by
  have HM1 := Lib.hid (fun wx hw => mulW_any n1 d2 wx hw (by omega) (by omega))
  have HM2 := Lib.hid (fun wx hw => mulW_any n2 d1 wx hw (by omega) (by omega))
  have z1 := zsz_mul2 h1 h4 (by omega)
  have z2 := zsz_mul2 h3 h2 (by omega)
  have HCW := Lib.hid (fun wx => cmpW_any (n1 * d2) (n2 * d1) wx (by omega) (by omega))
  obtain ⟨s1, hs1⟩ : ∃ s, s = zS n1 := ⟨_, rfl⟩
  obtain ⟨t1, ht1⟩ : ∃ s, s = zS d1 := ⟨_, rfl⟩
  obtain ⟨s2, hs2⟩ : ∃ s, s = zS n2 := ⟨_, rfl⟩
  obtain ⟨t2, ht2⟩ : ∃ s, s = zS d2 := ⟨_, rfl⟩
  obtain ⟨m1, hm1⟩ : ∃ s, s = zS (n1 * d2) := ⟨_, rfl⟩
  obtain ⟨m2, hm2⟩ : ∃ s, s = zS (n2 * d1) := ⟨_, rfl⟩
  obtain ⟨cz, hcz⟩ : ∃ s, s = cmpZ (n1 * d2) (n2 * d1) := ⟨_, rfl⟩
  rw [← hs1, ← ht1] at hA
  rw [← hs2, ← ht2] at hB
  rw [← hs1, ← ht2, ← hm1] at HM1
  rw [← hs2, ← ht1, ← hm2] at HM2
  rw [← hm1, ← hm2, ← hcz] at HCW
  rw [← hcz]
  have HS := Lib.hid hs
  have HA := Lib.hid hA
  have HB := Lib.hid hB
  clear hs hA hB h1 h2 h3 h4 z1 z2 hs1 ht1 hs2 ht2 hm1 hm2 hcz
  go_enter Tryz.func104, Tryz.ntmps104
  go_upto_region 1 with fail
  have Y0 := Lib.hid (Below.drew (Below.refl w.heap.size w))
  have A0 := Lib.hid (HA.out.below Y0.out)
  have B0 := Lib.hid (HB.out.below Y0.out)
  go_region_held3 (fun W => W.cell? ⟨ga, 0, none⟩ = some (.string s1) ∧ W.cell? ⟨ga, 1, none⟩ = some (.string t1) ∧ W.cell? ⟨gb, 0, none⟩ = some (.string s2) ∧ W.cell? ⟨gb, 1, none⟩ = some (.string t2)) (first | exact ⟨A3.out.num, A3.out.den, B3.out.num, B3.out.den⟩ | exact ⟨A2.out.num, A2.out.den, B2.out.num, B2.out.den⟩ | exact ⟨A1.out.num, A1.out.den, B1.out.num, B1.out.den⟩ | exact ⟨A0.out.num, A0.out.den, B0.out.num, B0.out.den⟩) (first | (go_at_call 105; have g0 := Y2.out; refine (HCW.out _ ).mono ?_; rintro e w3 ⟨rfl, h3⟩; have Y3 := Lib.hid (g0.trans (h3.mono g0.size)); have A3 := Lib.hid (A2.out.below h3); have B3 := Lib.hid (B2.out.below h3); clear h3 g0) | (go_at_call 97; have g0 := Y1.out; refine (HM2.out _ ?hss).mono ?_; (case hss => exact HS.out.below g0); rintro e w2 ⟨rfl, h2⟩; have Y2 := Lib.hid (g0.trans (h2.mono g0.size)); have A2 := Lib.hid (A1.out.below h2); have B2 := Lib.hid (B1.out.below h2); clear h2 g0) | (go_at_call 97; have g0 := Y0.out; refine (HM1.out _ ?hss).mono ?_; (case hss => exact HS.out.below g0); rintro e w1 ⟨rfl, h1⟩; have Y1 := Lib.hid (g0.trans (h1.mono g0.size)); have A1 := Lib.hid (A0.out.below h1); have B1 := Lib.hid (B0.out.below h1); clear h1 g0))
  all_goals (
    go_wp2_with fail
    go_ret
    exact ⟨rfl, Y3.out⟩)
end Go.Proofs.YtdgbplppabalgaaGreatDoor

namespace Go.Proofs.YtdgbplppabalgaaGreatDoor
open Go.RowKit

theorem BxR.allocY {W : World} {g : Nat} {n d : ByteArray} (h : BxR W g n d) (o : Obj) : BxR (W.alloc o) g n d := h.below ((Below.refl _ _).alloc (Nat.le_refl _) _)
/-- two boxes of fractions -/
structure Bf (w W : World) (s1 t1 s2 t2 : ByteArray) : Prop where
  below : Below w.heap.size w W
  one : BxR W w.heap.size s1 t1
  two : BxR W (w.heap.size + 1) s2 t2
theorem Bf.to {w W W' : World} {s1 t1 s2 t2 : ByteArray} (h : Bf w W s1 t1 s2 t2) (hb : Below W.heap.size W W') : Bf w W' s1 t1 s2 t2 := ⟨h.below.trans (hb.mono h.below.size), h.one.below hb, h.two.below hb⟩
theorem Bf.new (w : World) (s1 t1 s2 t2 : ByteArray) : Bf w ((w.alloc (ratO s1 t1)).alloc (ratO s2 t2)) s1 t1 s2 t2 := by
  have h := BxR.new (w.alloc (ratO s1 t1)) s2 t2
  rw [push_size] at h
  exact ⟨((Below.refl _ w).alloc (Nat.le_refl _) _).alloc (by rw [push_size]; omega) _, (BxR.new w s1 t1).allocY _, h⟩
/-- two boxes of fractions and the cell of a third -/
structure Bg (w W : World) (s1 t1 s2 t2 : ByteArray) : Prop where
  two : Bf w W s1 t1 s2 t2
  res : BxT W w.heap.size (w.heap.size + 1 + 1) 24 (.string ⟨#[]⟩) (.string ⟨#[]⟩)
theorem Bg.to {w W W' : World} {s1 t1 s2 t2 : ByteArray} (h : Bg w W s1 t1 s2 t2) (hb : Below W.heap.size W W') : Bg w W' s1 t1 s2 t2 := ⟨h.two.to hb, h.res.kept hb⟩
theorem Bg.new (w : World) (s1 t1 s2 t2 : ByteArray) : Bg w (((w.alloc (ratO s1 t1)).alloc (ratO s2 t2)).alloc (.cells #[.string ⟨#[]⟩, .string ⟨#[]⟩] 24)) s1 t1 s2 t2 := by
  have h := BxT.new ((w.alloc (ratO s1 t1)).alloc (ratO s2 t2)) w.heap.size (by rw [push_size, push_size]; omega) 24 (.string ⟨#[]⟩) (.string ⟨#[]⟩)
  rw [push_size, push_size] at h
  exact ⟨(Bf.new w s1 t1 s2 t2).to ((Below.refl _ _).alloc (Nat.le_refl _) _), h⟩
set_option maxHeartbeats 6400000 in
set_option maxRecDepth 100000 in
theorem eiAdd (n1 d1 n2 d2 : Int) (ga gb : Nat) (w : World) (hs : Std w) (hA : BxR w ga (zS n1) (zS d1)) (hB : BxR w gb (zS n2) (zS d2)) (h1 : (str n1.natAbs).size ≤ 10000) (h2 : (str d1.natAbs).size ≤ 10000) (h3 : (str n2.natAbs).size ≤ 10000) (h4 : (str d2.natAbs).size ≤ 10000) (p1 : 0 < d1) (p2 : 0 < d2) :
    Calls Tryz.prog 93 #[ratV (zS n1) (zS d1), ratV (zS n2) (zS d2), .func (.func 94) #[] #[], .func (.func 95) #[] #[.pointer (some ⟨ga, 0, none⟩), .pointer (some ⟨gb, 0, none⟩)]] w fun e w' => e = .returned (ratV (zS (lowN (n1 * d2 + n2 * d1) (d1 * d2).natAbs)) (str (lowD (n1 * d2 + n2 * d1) (d1 * d2).natAbs))) ∧ Below w.heap.size w w' := by
  have HF1 := Lib.hid (show ∃ (k : Bool) (v u : Int), (k = true → v = n1 ∧ u = d1 ∧ fewOk n1 d1) ∧ ∀ wx, Std wx → Calls Tryz.prog 67 #[ratV (zS n1) (zS d1)] wx fun e w' => e = .returned (.tuple #[rtV v u, .bool k]) ∧ Below wx.heap.size wx w' from by
    by_cases h : fewOk n1 d1
    · exact ⟨true, n1, d1, fun _ => ⟨rfl, rfl, h⟩, fun wx hw => fewF_yes n1 d1 wx hw h (by omega) (by omega)⟩
    · exact ⟨false, 0, 0, (fun q => by cases q), fun wx hw => fewF_no n1 d1 wx hw h (by omega) (by omega)⟩)
  have HF2 := Lib.hid (show ∃ (k : Bool) (v u : Int), (k = true → v = n2 ∧ u = d2 ∧ fewOk n2 d2) ∧ ∀ wx, Std wx → Calls Tryz.prog 67 #[ratV (zS n2) (zS d2)] wx fun e w' => e = .returned (.tuple #[rtV v u, .bool k]) ∧ Below wx.heap.size wx w' from by
    by_cases h : fewOk n2 d2
    · exact ⟨true, n2, d2, fun _ => ⟨rfl, rfl, h⟩, fun wx hw => fewF_yes n2 d2 wx hw h (by omega) (by omega)⟩
    · exact ⟨false, 0, 0, (fun q => by cases q), fun wx hw => fewF_no n2 d2 wx hw h (by omega) (by omega)⟩)
  have HL := Lib.hid (fun wx hw (hx : Below w.heap.size w wx) => addClo_any n1 d1 n2 d2 ga gb wx hw (hA.below hx) (hB.below hx) h1 h2 h3 h4 p1 p2)
  have HQ := Lib.hid (fun wx (hw : Std wx) k1 k2 => addFew_any n1 d1 n2 d2 wx hw k1 k2)
  obtain ⟨rs, hrs⟩ : ∃ s, s = zS (lowN (n1 * d2 + n2 * d1) (d1 * d2).natAbs) := ⟨_, rfl⟩
  obtain ⟨rt, hrt⟩ : ∃ s, s = str (lowD (n1 * d2 + n2 * d1) (d1 * d2).natAbs) := ⟨_, rfl⟩
  rw [← hrs, ← hrt] at HL HQ
  rw [← hrs, ← hrt]
  clear hrs hrt
  obtain ⟨k1, v1, u1, HK1, HFA⟩ := HF1.out
  obtain ⟨k2, v2, u2, HK2, HFB⟩ := HF2.out
  obtain ⟨s1, hs1⟩ : ∃ s, s = zS n1 := ⟨_, rfl⟩
  obtain ⟨t1, ht1⟩ : ∃ s, s = zS d1 := ⟨_, rfl⟩
  obtain ⟨s2, hs2⟩ : ∃ s, s = zS n2 := ⟨_, rfl⟩
  obtain ⟨t2, ht2⟩ : ∃ s, s = zS d2 := ⟨_, rfl⟩
  rw [← hs1, ← ht1] at HFA ⊢
  rw [← hs2, ← ht2] at HFB ⊢
  have HF1' := Lib.hid HFA
  have HF2' := Lib.hid HFB
  have HKA := Lib.hid HK1
  have HKB := Lib.hid HK2
  have HS := Lib.hid hs
  have HZ := Lib.hid (Bg.new w s1 t1 s2 t2)
  clear hs hA hB h1 h2 h3 h4 p1 p2 hs1 ht1 hs2 ht2 HFA HFB HK1 HK2 HF1 HF2
  go_enter Tryz.func93, Tryz.ntmps93
  go_upto_region 1 with fail
  obtain ⟨W0, hW0⟩ : ∃ W0, W0 = ((w.alloc (ratO s1 t1)).alloc (ratO s2 t2)).alloc (.cells #[.string ⟨#[]⟩, .string ⟨#[]⟩] 24) := ⟨_, rfl⟩
  rw [← hW0] at HZ ⊢
  clear hW0
  have c1 := HZ.out.two.one.num
  have c2 := HZ.out.two.one.den
  go_wp2_with fail
  refine (HF1'.out _ (HS.out.below HZ.out.two.below)).mono ?_
  rintro e w1 ⟨rfl, h1⟩
  have Z1 := Lib.hid (HZ.out.to h1)
  clear h1 c1 c2
  go_upto_region 2 with fail
  have P0 := Lib.hid (BxT.new w1 w.heap.size Z1.out.two.below.size 78 (.int .i64 v1) (.int .i64 u1))
  have Z2 := Lib.hid (Z1.out.to ((Below.refl _ _).alloc (Nat.le_refl _) (.cells #[.int .i64 v1, .int .i64 u1] 78)))
  obtain ⟨gp, hgp⟩ : ∃ g, g = w1.heap.size := ⟨_, rfl⟩
  obtain ⟨W2, hW2⟩ : ∃ W2, W2 = w1.alloc (.cells #[.int .i64 v1, .int .i64 u1] 78) := ⟨_, rfl⟩
  rw [← hgp, ← hW2] at P0
  rw [← hW2] at Z2
  rw [← hW2, ← hgp]
  clear hgp hW2 Z1
  have c1 := Z2.out.two.two.num
  have c2 := Z2.out.two.two.den
  go_wp2_with fail
  refine (HF2'.out _ (HS.out.below Z2.out.two.below)).mono ?_
  rintro e w3 ⟨rfl, h3⟩
  have Z3 := Lib.hid (Z2.out.to h3)
  have P3 := Lib.hid (P0.out.kept h3)
  clear h3 c1 c2 P0 Z2
  go_upto_region 3 with fail
  have Q4 := Lib.hid (BxT.new w3 w.heap.size Z3.out.two.below.size 78 (.int .i64 v2) (.int .i64 u2))
  have Z4 := Lib.hid (Z3.out.to ((Below.refl _ _).alloc (Nat.le_refl _) (.cells #[.int .i64 v2, .int .i64 u2] 78)))
  have P4 := Lib.hid (P3.out.allocY (.cells #[.int .i64 v2, .int .i64 u2] 78))
  obtain ⟨gq, hgq⟩ : ∃ g, g = w3.heap.size := ⟨_, rfl⟩
  obtain ⟨W4, hW4⟩ : ∃ W4, W4 = w3.alloc (.cells #[.int .i64 v2, .int .i64 u2] 78) := ⟨_, rfl⟩
  rw [← hgq, ← hW4] at Q4
  rw [← hW4] at Z4 P4
  rw [← hW4, ← hgq]
  clear hgq hW4 Z3 P3
  have hpq := Lib.hid (show (k1 && k2) = (k1 && k2) from rfl)
  cases k1 with
  | false =>
    go_wp2_with fail
    refine (HL.out _ (HS.out.below Z4.out.two.below) Z4.out.two.below).mono ?_
    rintro e w7 ⟨rfl, h7⟩
    have Z7 := Z4.out.to h7
    have f0 := Z7.res.free 0
    have e0 := Z7.res.c0
    have e1 := Z7.res.c1
    have S0 := Z7.res.set0 (.string rs)
    have S1 := S0.set1 (.string rt)
    have f1 := S0.free 1
    have g1 := S0.c1
    have x0 := S1.c0
    have x1 := S1.c1
    have HBE := Lib.hid ((Z7.two.below.setCell (p := ⟨w.heap.size + 1 + 1, 0, none⟩) (by show w.heap.size ≤ w.heap.size + 1 + 1; omega) (.string rs)).setCell (p := ⟨w.heap.size + 1 + 1, 1, none⟩) (by show w.heap.size ≤ w.heap.size + 1 + 1; omega) (.string rt))
    clear S0 S1 h7 Z7
    go_wp2_with fail
    (try simp only [Exit.inBlock, Exit.then])
    refine bodyPost_ret (v := ratV rs rt) ?_ rfl ⟨rfl, HBE.out⟩
    rw [results_cell_one rfl]
    go_simp
  | true =>
    cases k2 with
    | false =>
      go_wp2_with fail
      refine (HL.out _ (HS.out.below Z4.out.two.below) Z4.out.two.below).mono ?_
      rintro e w7 ⟨rfl, h7⟩
      have Z7 := Z4.out.to h7
      have f0 := Z7.res.free 0
      have e0 := Z7.res.c0
      have e1 := Z7.res.c1
      have S0 := Z7.res.set0 (.string rs)
      have S1 := S0.set1 (.string rt)
      have f1 := S0.free 1
      have g1 := S0.c1
      have x0 := S1.c0
      have x1 := S1.c1
      have HBE := Lib.hid ((Z7.two.below.setCell (p := ⟨w.heap.size + 1 + 1, 0, none⟩) (by show w.heap.size ≤ w.heap.size + 1 + 1; omega) (.string rs)).setCell (p := ⟨w.heap.size + 1 + 1, 1, none⟩) (by show w.heap.size ≤ w.heap.size + 1 + 1; omega) (.string rt))
      clear S0 S1 h7 Z7
      go_wp2_with fail
      (try simp only [Exit.inBlock, Exit.then])
      refine bodyPost_ret (v := ratV rs rt) ?_ rfl ⟨rfl, HBE.out⟩
      rw [results_cell_one rfl]
      go_simp
    | true =>
      obtain ⟨rfl, rfl, hk1⟩ := HKA.out (by first | trivial | rfl)
      obtain ⟨rfl, rfl, hk2⟩ := HKB.out (by first | trivial | rfl)
      have HQ2 := Lib.hid (HQ.out W4 (HS.out.below Z4.out.two.below) hk1 hk2)
      have y0 := P4.out.c0
      have y1 := P4.out.c1
      have y2 := Q4.out.c0
      have y3 := Q4.out.c1
      clear hk1 hk2 HKA HKB HQ hpq
      go_wp2_with fail
      refine HQ2.out.mono ?_
      rintro e w5 ⟨⟨ok, rfl⟩, h5⟩
      have Z5 := Lib.hid (Z4.out.to h5)
      clear h5 y0 y1 y2 y3
      cases ok with
      | false =>
        rw [if_neg (by decide), if_neg (by decide)]
        have Z6 := Lib.hid (Z5.out.to ((Below.refl _ _).alloc (Nat.le_refl _) (.cells #[.string ⟨#[]⟩, .string ⟨#[]⟩] 24)))
        go_wp2_with fail
        refine (HL.out _ (HS.out.below Z6.out.two.below) Z6.out.two.below).mono ?_
        rintro e w7 ⟨rfl, h7⟩
        have Z7 := Z6.out.to h7
        have f0 := Z7.res.free 0
        have e0 := Z7.res.c0
        have e1 := Z7.res.c1
        have S0 := Z7.res.set0 (.string rs)
        have S1 := S0.set1 (.string rt)
        have f1 := S0.free 1
        have g1 := S0.c1
        have x0 := S1.c0
        have x1 := S1.c1
        have HBE := Lib.hid ((Z7.two.below.setCell (p := ⟨w.heap.size + 1 + 1, 0, none⟩) (by show w.heap.size ≤ w.heap.size + 1 + 1; omega) (.string rs)).setCell (p := ⟨w.heap.size + 1 + 1, 1, none⟩) (by show w.heap.size ≤ w.heap.size + 1 + 1; omega) (.string rt))
        clear S0 S1 h7 Z7
        go_wp2_with fail
        (try simp only [Exit.inBlock, Exit.then])
        refine bodyPost_ret (v := ratV rs rt) ?_ rfl ⟨rfl, HBE.out⟩
        rw [results_cell_one rfl]
        go_simp
      | true =>
        rw [if_pos rfl, if_pos rfl]
        have hlt := Z5.out.res.lt.2
        have A := BxT.new w5 w.heap.size Z5.out.two.below.size 24 (.string rs) (.string rt)
        have cc0 := A.c0
        have cc1 := A.c1
        have R1 := Z5.out.res.allocY (.cells #[.string rs, .string rt] 24)
        have f0 := R1.free 0
        have e0 := R1.c0
        have e1 := R1.c1
        have S0 := R1.set0 (.string rs)
        have S1 := S0.set1 (.string rt)
        have f1 := S0.free 1
        have g1 := S0.c1
        have x0 := S1.c0
        have x1 := S1.c1
        have T0 := Z5.out.res.set0 (.string rs)
        have T1 := T0.set1 (.string rt)
        have f0b := Z5.out.res.free 0
        have e0b := Z5.out.res.c0
        have e1b := Z5.out.res.c1
        have f1b := T0.free 1
        have g1b := T0.c1
        have u0b := T1.c0
        have u1b := T1.c1
        have hE := (Z5.out.two.below.setCell (p := ⟨w.heap.size + 1 + 1, 0, none⟩) (by show w.heap.size ≤ w.heap.size + 1 + 1; omega) (.string rs)).setCell (p := ⟨w.heap.size + 1 + 1, 1, none⟩) (by show w.heap.size ≤ w.heap.size + 1 + 1; omega) (.string rt)
        have HBE := Lib.hid (hE.alloc hE.size (.cells #[.string rs, .string rt] 24))
        clear S0 S1 A R1 T0 T1 hE
        go_wp2_with fail
        (try simp only [Exit.inBlock, Exit.then])
        refine bodyPost_ret (v := ratV rs rt) ?_ rfl ⟨rfl, HBE.out⟩
        rw [results_cell_one rfl]
        go_simp
end Go.Proofs.YtdgbplppabalgaaGreatDoor
