/-
  Texts of one seat, joined: YFits YPlT.
-/
import Derived.Test.YtgkfdgdlmpggpaaGreatDoorJ37
import Derived.LoopN
import Derived.Test.YtgkfdgdlmpggpaaGreatDoorJ22
import Derived.Test.YtgkfdgdlmpggpaaGreatDoorJ30
import Derived.Test.YtgkfdgdlmpggpaaGreatDoorJ20
namespace Go.Proofs.YtgkfdgdlmpggpaaGreatDoor
open Go.RowKit

/-- a row of texts in a block -/
structure Rw (W : World) (g : Nat) (l : List ByteArray) : Prop where
  lt : g < W.heap.size
  get : ∀ i (h : i < l.length), W.cell? ⟨g, i, none⟩ = some (.string l[i])
theorem Rw.below {W W' : World} {g : Nat} {l : List ByteArray} (h : Rw W g l) (hb : Below W.heap.size W W') : Rw W' g l :=
  ⟨Nat.lt_of_lt_of_le h.lt hb.size, fun i hi => by rw [hb.cell (p := ⟨g, i, none⟩) h.lt]; exact h.get i hi⟩
def okF (s t : ByteArray) : Bool := !longB s t 60 && riB s t
theorem okF_size {s t : ByteArray} (h : longB s t 60 = false) : s.size ≤ 60 ∧ t.size ≤ 60 := by
  unfold longB at h
  rw [Bool.or_eq_false_iff] at h
  have := of_decide_eq_false h.1
  have := of_decide_eq_false h.2
  omega
theorem cat_three (s t : ByteArray) : s ++ ⟨#[47]⟩ ++ t = s ++ ⟨#[47]⟩ ++ t := rfl
set_option maxHeartbeats 800000 in
theorem textY_any (s t : ByteArray) (w : World) (h1 : s.size ≤ 1000001) (h2 : t.size ≤ 1000001) :
    Calls Tryz.prog 29 #[ratV s t] w fun e w' => e = .returned (.string (rtxt s t)) ∧ Below w.heap.size w w' := by
  have HZ := Lib.hid (Bi.new w s t)
  have k1 : s.size + 1 ≤ 9223372036854775807 := by omega
  have k3 : (s ++ (⟨#[47]⟩ : ByteArray)).size + t.size ≤ 9223372036854775807 := by rw [ByteArray.size_append]; show s.size + 1 + t.size ≤ _; omega
  have k4 : s.size + 1 + t.size ≤ 9223372036854775807 := by omega
  by_cases h : t = ⟨#[49]⟩
  · subst h
    rw [rtxt_one rfl]
    go_enter Tryz.func29, Tryz.ntmps29
    go_upto_region 1 with fail
    obtain ⟨W0, hW0⟩ : ∃ W0, W0 = w.alloc (ratO s ⟨#[49]⟩) := ⟨_, rfl⟩
    rw [← hW0] at HZ ⊢
    clear hW0
    have c1 := HZ.out.box.num
    have c2 := HZ.out.box.den
    go_wp2_with fail
    go_ret
    exact ⟨rfl, HZ.out.below⟩
  · rw [rtxt_far h]
    have hb : (t.toList == [49]) = false := ba_ne (l := [49]) h
    clear h h1 h2
    go_enter Tryz.func29, Tryz.ntmps29
    go_upto_region 1 with fail
    obtain ⟨W0, hW0⟩ : ∃ W0, W0 = w.alloc (ratO s t) := ⟨_, rfl⟩
    rw [← hW0] at HZ ⊢
    clear hW0
    have c1 := HZ.out.box.num
    have c2 := HZ.out.box.den
    go_wp2_with fail
    go_ret
    exact ⟨rfl, HZ.out.below⟩
set_option maxHeartbeats 3200000 in
set_option maxRecDepth 100000 in
theorem fits1_any (s0 t0 : ByteArray) (g : Nat) (w : World) (hs : Stf w) (hr : Rw w g [s0, t0]) :
    Calls Tryz.prog 26 #[.slice (some ⟨g, 0, none⟩) 1 1] w fun e w' => e = .returned (.bool (okF s0 t0)) ∧ Below w.heap.size w w' := by
  have HS := Lib.hid hs
  have HR0 := Lib.hid hr
  have HB0 := Lib.hid (Below.refl w.heap.size w)
  have HL0 := Lib.hid (fun wx => longF_any s0 t0 60 wx)
  clear hs hr
  cases l0 : longB s0 t0 60 with
  | true =>
    rw [l0] at HL0
    have hV := Lib.hid (show (okF s0 t0) = false by unfold okF; rw [l0]; rfl)
    obtain ⟨V, hVV⟩ : ∃ V, V = (okF s0 t0) := ⟨_, rfl⟩
    rw [← hVV] at hV ⊢
    clear hVV  l0
    go_enter Tryz.func26, Tryz.ntmps26
    go_wp2_with fail
    refine wp_loop_rounds 1 ?_
    rw [rounds_succ]
    have hc0 : w.cell? ⟨g, 0, none⟩ = some (.string s0) := HR0.out.get 0 (by show 0 < 2; decide)
    have hd0 : w.cell? ⟨g, 1, none⟩ = some (.string t0) := HR0.out.get 1 (by show 1 < 2; decide)
    go_wp2_with fail
    refine (HL0.out _).mono ?_
    rintro e w1 ⟨rfl, b1⟩
    have HB1 := Lib.hid (HB0.out.trans (b1.mono HB0.out.size))
    have HR1 := Lib.hid (HR0.out.below b1)
    clear b1 hc0 hd0
    go_wp2_with fail
    go_ret
    exact ⟨by rw [hV.out]; rfl, HB1.out⟩
  | false =>
    rw [l0] at HL0
    have HQ0 := Lib.hid (fun wx (hw : Std wx) => rightY_any s0 t0 wx hw (by have := okF_size l0; omega) (by have := okF_size l0; omega))
    cases r0 : riB s0 t0 with
    | false =>
      rw [r0] at HQ0
      have hV := Lib.hid (show (okF s0 t0) = false by unfold okF; rw [l0, r0]; rfl)
      obtain ⟨V, hVV⟩ : ∃ V, V = (okF s0 t0) := ⟨_, rfl⟩
      rw [← hVV] at hV ⊢
      clear hVV  l0 r0
      go_enter Tryz.func26, Tryz.ntmps26
      go_wp2_with fail
      refine wp_loop_rounds 1 ?_
      rw [rounds_succ]
      have hc0 : w.cell? ⟨g, 0, none⟩ = some (.string s0) := HR0.out.get 0 (by show 0 < 2; decide)
      have hd0 : w.cell? ⟨g, 1, none⟩ = some (.string t0) := HR0.out.get 1 (by show 1 < 2; decide)
      go_wp2_with fail
      refine (HL0.out _).mono ?_
      rintro e w1 ⟨rfl, b1⟩
      have HB1 := Lib.hid (HB0.out.trans (b1.mono HB0.out.size))
      have HR1 := Lib.hid (HR0.out.below b1)
      clear b1 hc0 hd0
      have hc1 : w1.cell? ⟨g, 0, none⟩ = some (.string s0) := HR1.out.get 0 (by show 0 < 2; decide)
      have hd1 : w1.cell? ⟨g, 1, none⟩ = some (.string t0) := HR1.out.get 1 (by show 1 < 2; decide)
      go_wp2_with fail
      refine (HQ0.out _ (HS.out.below HB1.out).std).mono ?_
      rintro e w2 ⟨rfl, b2⟩
      have HB2 := Lib.hid (HB1.out.trans (b2.mono HB1.out.size))
      have HR2 := Lib.hid (HR1.out.below b2)
      clear b2 hc1 hd1
      go_wp2_with fail
      go_ret
      exact ⟨by rw [hV.out]; rfl, HB2.out⟩
    | true =>
      rw [r0] at HQ0
      have hV := Lib.hid (show (okF s0 t0) = true by unfold okF; rw [l0, r0]; rfl)
      obtain ⟨V, hVV⟩ : ∃ V, V = (okF s0 t0) := ⟨_, rfl⟩
      rw [← hVV] at hV ⊢
      clear hVV l0 r0
      go_enter Tryz.func26, Tryz.ntmps26
      go_wp2_with fail
      refine wp_loop_rounds 2 ?_
      rw [rounds_succ]
      have hc0 : w.cell? ⟨g, 0, none⟩ = some (.string s0) := HR0.out.get 0 (by show 0 < 2; decide)
      have hd0 : w.cell? ⟨g, 1, none⟩ = some (.string t0) := HR0.out.get 1 (by show 1 < 2; decide)
      go_wp2_with fail
      refine (HL0.out _).mono ?_
      rintro e w1 ⟨rfl, b1⟩
      have HB1 := Lib.hid (HB0.out.trans (b1.mono HB0.out.size))
      have HR1 := Lib.hid (HR0.out.below b1)
      clear b1 hc0 hd0
      have hc1 : w1.cell? ⟨g, 0, none⟩ = some (.string s0) := HR1.out.get 0 (by show 0 < 2; decide)
      have hd1 : w1.cell? ⟨g, 1, none⟩ = some (.string t0) := HR1.out.get 1 (by show 1 < 2; decide)
      go_wp2_with fail
      refine (HQ0.out _ (HS.out.below HB1.out).std).mono ?_
      rintro e w2 ⟨rfl, b2⟩
      have HB2 := Lib.hid (HB1.out.trans (b2.mono HB1.out.size))
      have HR2 := Lib.hid (HR1.out.below b2)
      clear b2 hc1 hd1
      go_wp2_with fail
      rw [rounds_succ]
      go_wp2_with fail
      go_ret
      exact ⟨by rw [hV.out]; rfl, HB2.out⟩
set_option maxHeartbeats 3200000 in
set_option maxRecDepth 100000 in
theorem fits2_any (s0 t0 s1 t1 : ByteArray) (g : Nat) (w : World) (hs : Stf w) (hr : Rw w g [s0, t0, s1, t1]) :
    Calls Tryz.prog 26 #[.slice (some ⟨g, 0, none⟩) 2 2] w fun e w' => e = .returned (.bool (okF s0 t0 && okF s1 t1)) ∧ Below w.heap.size w w' := by
  have HS := Lib.hid hs
  have HR0 := Lib.hid hr
  have HB0 := Lib.hid (Below.refl w.heap.size w)
  have HL0 := Lib.hid (fun wx => longF_any s0 t0 60 wx)
  have HL1 := Lib.hid (fun wx => longF_any s1 t1 60 wx)
  clear hs hr
  cases l0 : longB s0 t0 60 with
  | true =>
    rw [l0] at HL0
    have hV := Lib.hid (show (okF s0 t0 && okF s1 t1) = false by unfold okF; rw [l0]; rfl)
    obtain ⟨V, hVV⟩ : ∃ V, V = (okF s0 t0 && okF s1 t1) := ⟨_, rfl⟩
    rw [← hVV] at hV ⊢
    clear hVV  l0
    go_enter Tryz.func26, Tryz.ntmps26
    go_wp2_with fail
    refine wp_loop_rounds 1 ?_
    rw [rounds_succ]
    have hc0 : w.cell? ⟨g, 0, none⟩ = some (.string s0) := HR0.out.get 0 (by show 0 < 4; decide)
    have hd0 : w.cell? ⟨g, 1, none⟩ = some (.string t0) := HR0.out.get 1 (by show 1 < 4; decide)
    go_wp2_with fail
    refine (HL0.out _).mono ?_
    rintro e w1 ⟨rfl, b1⟩
    have HB1 := Lib.hid (HB0.out.trans (b1.mono HB0.out.size))
    have HR1 := Lib.hid (HR0.out.below b1)
    clear b1 hc0 hd0
    go_wp2_with fail
    go_ret
    exact ⟨by rw [hV.out]; rfl, HB1.out⟩
  | false =>
    rw [l0] at HL0
    have HQ0 := Lib.hid (fun wx (hw : Std wx) => rightY_any s0 t0 wx hw (by have := okF_size l0; omega) (by have := okF_size l0; omega))
    cases r0 : riB s0 t0 with
    | false =>
      rw [r0] at HQ0
      have hV := Lib.hid (show (okF s0 t0 && okF s1 t1) = false by unfold okF; rw [l0, r0]; rfl)
      obtain ⟨V, hVV⟩ : ∃ V, V = (okF s0 t0 && okF s1 t1) := ⟨_, rfl⟩
      rw [← hVV] at hV ⊢
      clear hVV  l0 r0
      go_enter Tryz.func26, Tryz.ntmps26
      go_wp2_with fail
      refine wp_loop_rounds 1 ?_
      rw [rounds_succ]
      have hc0 : w.cell? ⟨g, 0, none⟩ = some (.string s0) := HR0.out.get 0 (by show 0 < 4; decide)
      have hd0 : w.cell? ⟨g, 1, none⟩ = some (.string t0) := HR0.out.get 1 (by show 1 < 4; decide)
      go_wp2_with fail
      refine (HL0.out _).mono ?_
      rintro e w1 ⟨rfl, b1⟩
      have HB1 := Lib.hid (HB0.out.trans (b1.mono HB0.out.size))
      have HR1 := Lib.hid (HR0.out.below b1)
      clear b1 hc0 hd0
      have hc1 : w1.cell? ⟨g, 0, none⟩ = some (.string s0) := HR1.out.get 0 (by show 0 < 4; decide)
      have hd1 : w1.cell? ⟨g, 1, none⟩ = some (.string t0) := HR1.out.get 1 (by show 1 < 4; decide)
      go_wp2_with fail
      refine (HQ0.out _ (HS.out.below HB1.out).std).mono ?_
      rintro e w2 ⟨rfl, b2⟩
      have HB2 := Lib.hid (HB1.out.trans (b2.mono HB1.out.size))
      have HR2 := Lib.hid (HR1.out.below b2)
      clear b2 hc1 hd1
      go_wp2_with fail
      go_ret
      exact ⟨by rw [hV.out]; rfl, HB2.out⟩
    | true =>
      rw [r0] at HQ0
      cases l1 : longB s1 t1 60 with
      | true =>
        rw [l1] at HL1
        have hV := Lib.hid (show (okF s0 t0 && okF s1 t1) = false by unfold okF; rw [l0, r0, l1]; rfl)
        obtain ⟨V, hVV⟩ : ∃ V, V = (okF s0 t0 && okF s1 t1) := ⟨_, rfl⟩
        rw [← hVV] at hV ⊢
        clear hVV l0 r0 l1
        go_enter Tryz.func26, Tryz.ntmps26
        go_wp2_with fail
        refine wp_loop_rounds 2 ?_
        rw [rounds_succ]
        have hc0 : w.cell? ⟨g, 0, none⟩ = some (.string s0) := HR0.out.get 0 (by show 0 < 4; decide)
        have hd0 : w.cell? ⟨g, 1, none⟩ = some (.string t0) := HR0.out.get 1 (by show 1 < 4; decide)
        go_wp2_with fail
        refine (HL0.out _).mono ?_
        rintro e w1 ⟨rfl, b1⟩
        have HB1 := Lib.hid (HB0.out.trans (b1.mono HB0.out.size))
        have HR1 := Lib.hid (HR0.out.below b1)
        clear b1 hc0 hd0
        have hc1 : w1.cell? ⟨g, 0, none⟩ = some (.string s0) := HR1.out.get 0 (by show 0 < 4; decide)
        have hd1 : w1.cell? ⟨g, 1, none⟩ = some (.string t0) := HR1.out.get 1 (by show 1 < 4; decide)
        go_wp2_with fail
        refine (HQ0.out _ (HS.out.below HB1.out).std).mono ?_
        rintro e w2 ⟨rfl, b2⟩
        have HB2 := Lib.hid (HB1.out.trans (b2.mono HB1.out.size))
        have HR2 := Lib.hid (HR1.out.below b2)
        clear b2 hc1 hd1
        go_wp2_with fail
        rw [rounds_succ]
        have hc2 : w2.cell? ⟨g, 2, none⟩ = some (.string s1) := HR2.out.get 2 (by show 2 < 4; decide)
        have hd2 : w2.cell? ⟨g, 3, none⟩ = some (.string t1) := HR2.out.get 3 (by show 3 < 4; decide)
        go_wp2_with fail
        refine (HL1.out _).mono ?_
        rintro e w3 ⟨rfl, b3⟩
        have HB3 := Lib.hid (HB2.out.trans (b3.mono HB2.out.size))
        have HR3 := Lib.hid (HR2.out.below b3)
        clear b3 hc2 hd2
        go_wp2_with fail
        go_ret
        exact ⟨by rw [hV.out]; rfl, HB3.out⟩
      | false =>
        rw [l1] at HL1
        have HQ1 := Lib.hid (fun wx (hw : Std wx) => rightY_any s1 t1 wx hw (by have := okF_size l1; omega) (by have := okF_size l1; omega))
        cases r1 : riB s1 t1 with
        | false =>
          rw [r1] at HQ1
          have hV := Lib.hid (show (okF s0 t0 && okF s1 t1) = false by unfold okF; rw [l0, r0, l1, r1]; rfl)
          obtain ⟨V, hVV⟩ : ∃ V, V = (okF s0 t0 && okF s1 t1) := ⟨_, rfl⟩
          rw [← hVV] at hV ⊢
          clear hVV l0 r0 l1 r1
          go_enter Tryz.func26, Tryz.ntmps26
          go_wp2_with fail
          refine wp_loop_rounds 2 ?_
          rw [rounds_succ]
          have hc0 : w.cell? ⟨g, 0, none⟩ = some (.string s0) := HR0.out.get 0 (by show 0 < 4; decide)
          have hd0 : w.cell? ⟨g, 1, none⟩ = some (.string t0) := HR0.out.get 1 (by show 1 < 4; decide)
          go_wp2_with fail
          refine (HL0.out _).mono ?_
          rintro e w1 ⟨rfl, b1⟩
          have HB1 := Lib.hid (HB0.out.trans (b1.mono HB0.out.size))
          have HR1 := Lib.hid (HR0.out.below b1)
          clear b1 hc0 hd0
          have hc1 : w1.cell? ⟨g, 0, none⟩ = some (.string s0) := HR1.out.get 0 (by show 0 < 4; decide)
          have hd1 : w1.cell? ⟨g, 1, none⟩ = some (.string t0) := HR1.out.get 1 (by show 1 < 4; decide)
          go_wp2_with fail
          refine (HQ0.out _ (HS.out.below HB1.out).std).mono ?_
          rintro e w2 ⟨rfl, b2⟩
          have HB2 := Lib.hid (HB1.out.trans (b2.mono HB1.out.size))
          have HR2 := Lib.hid (HR1.out.below b2)
          clear b2 hc1 hd1
          go_wp2_with fail
          rw [rounds_succ]
          have hc2 : w2.cell? ⟨g, 2, none⟩ = some (.string s1) := HR2.out.get 2 (by show 2 < 4; decide)
          have hd2 : w2.cell? ⟨g, 3, none⟩ = some (.string t1) := HR2.out.get 3 (by show 3 < 4; decide)
          go_wp2_with fail
          refine (HL1.out _).mono ?_
          rintro e w3 ⟨rfl, b3⟩
          have HB3 := Lib.hid (HB2.out.trans (b3.mono HB2.out.size))
          have HR3 := Lib.hid (HR2.out.below b3)
          clear b3 hc2 hd2
          have hc3 : w3.cell? ⟨g, 2, none⟩ = some (.string s1) := HR3.out.get 2 (by show 2 < 4; decide)
          have hd3 : w3.cell? ⟨g, 3, none⟩ = some (.string t1) := HR3.out.get 3 (by show 3 < 4; decide)
          go_wp2_with fail
          refine (HQ1.out _ (HS.out.below HB3.out).std).mono ?_
          rintro e w4 ⟨rfl, b4⟩
          have HB4 := Lib.hid (HB3.out.trans (b4.mono HB3.out.size))
          have HR4 := Lib.hid (HR3.out.below b4)
          clear b4 hc3 hd3
          go_wp2_with fail
          go_ret
          exact ⟨by rw [hV.out]; rfl, HB4.out⟩
        | true =>
          rw [r1] at HQ1
          have hV := Lib.hid (show (okF s0 t0 && okF s1 t1) = true by unfold okF; rw [l0, r0, l1, r1]; rfl)
          obtain ⟨V, hVV⟩ : ∃ V, V = (okF s0 t0 && okF s1 t1) := ⟨_, rfl⟩
          rw [← hVV] at hV ⊢
          clear hVV l0 r0 l1 r1
          go_enter Tryz.func26, Tryz.ntmps26
          go_wp2_with fail
          refine wp_loop_rounds 3 ?_
          rw [rounds_succ]
          have hc0 : w.cell? ⟨g, 0, none⟩ = some (.string s0) := HR0.out.get 0 (by show 0 < 4; decide)
          have hd0 : w.cell? ⟨g, 1, none⟩ = some (.string t0) := HR0.out.get 1 (by show 1 < 4; decide)
          go_wp2_with fail
          refine (HL0.out _).mono ?_
          rintro e w1 ⟨rfl, b1⟩
          have HB1 := Lib.hid (HB0.out.trans (b1.mono HB0.out.size))
          have HR1 := Lib.hid (HR0.out.below b1)
          clear b1 hc0 hd0
          have hc1 : w1.cell? ⟨g, 0, none⟩ = some (.string s0) := HR1.out.get 0 (by show 0 < 4; decide)
          have hd1 : w1.cell? ⟨g, 1, none⟩ = some (.string t0) := HR1.out.get 1 (by show 1 < 4; decide)
          go_wp2_with fail
          refine (HQ0.out _ (HS.out.below HB1.out).std).mono ?_
          rintro e w2 ⟨rfl, b2⟩
          have HB2 := Lib.hid (HB1.out.trans (b2.mono HB1.out.size))
          have HR2 := Lib.hid (HR1.out.below b2)
          clear b2 hc1 hd1
          go_wp2_with fail
          rw [rounds_succ]
          have hc2 : w2.cell? ⟨g, 2, none⟩ = some (.string s1) := HR2.out.get 2 (by show 2 < 4; decide)
          have hd2 : w2.cell? ⟨g, 3, none⟩ = some (.string t1) := HR2.out.get 3 (by show 3 < 4; decide)
          go_wp2_with fail
          refine (HL1.out _).mono ?_
          rintro e w3 ⟨rfl, b3⟩
          have HB3 := Lib.hid (HB2.out.trans (b3.mono HB2.out.size))
          have HR3 := Lib.hid (HR2.out.below b3)
          clear b3 hc2 hd2
          have hc3 : w3.cell? ⟨g, 2, none⟩ = some (.string s1) := HR3.out.get 2 (by show 2 < 4; decide)
          have hd3 : w3.cell? ⟨g, 3, none⟩ = some (.string t1) := HR3.out.get 3 (by show 3 < 4; decide)
          go_wp2_with fail
          refine (HQ1.out _ (HS.out.below HB3.out).std).mono ?_
          rintro e w4 ⟨rfl, b4⟩
          have HB4 := Lib.hid (HB3.out.trans (b4.mono HB3.out.size))
          have HR4 := Lib.hid (HR3.out.below b4)
          clear b4 hc3 hd3
          go_wp2_with fail
          rw [rounds_succ]
          go_wp2_with fail
          go_ret
          exact ⟨by rw [hV.out]; rfl, HB4.out⟩
end Go.Proofs.YtgkfdgdlmpggpaaGreatDoor

namespace Go.Proofs.YtgkfdgdlmpggpaaGreatDoor
open Go.RowKit

theorem str_all2 (n : Nat) : (str n).data.toList.all isD = true := by
  have h := zCan_zS (n : Int)
  unfold zCan at h
  rw [Bool.and_eq_true] at h
  rw [magB_zS, Int.natAbs_natCast] at h
  have h1 := h.1
  unfold canonL at h1
  rw [Bool.and_eq_true] at h1
  exact h1.2
theorem digL_str (n : Nat) : digL (str n).data.toList = true := by
  unfold digL
  rw [str_all2, Bool.true_and, Bool.not_eq_true']
  cases e : (str n).data.toList with
  | nil =>
    have h := zCan_zS (n : Int)
    unfold zCan at h
    rw [Bool.and_eq_true, magB_zS, Int.natAbs_natCast, e] at h
    exact absurd h.1 (by decide)
  | cons a l => rfl
theorem not_mem_str {x : UInt8} (hx : isD x = false) (n : Nat) : x ∉ (str n).data.toList := by
  intro h
  have := List.all_eq_true.1 (str_all2 n) x h
  rw [hx] at this; cases this
theorem not_mem_zS {x : UInt8} (hx : isD x = false) (h45 : x ≠ 45) (z : Int) : x ∉ (zS z).data.toList := by
  by_cases h : z < 0
  · rw [zS_neg h, cat_list]
    intro k
    rcases List.mem_append.1 k with k | k
    · exact h45 (List.mem_singleton.1 k)
    · exact not_mem_str hx _ k
  · rw [zS_pos h]; exact not_mem_str hx _
theorem sgN_zS (z : Int) : sgN (negB (zS z)) (val (magB (zS z)).data.toList) = z := by
  have h := zV_zS z
  unfold zV at h
  unfold sgN
  exact h
theorem mk_eq {s : ByteArray} {l : List UInt8} (h : s.data.toList = l) : (⟨l.toArray⟩ : ByteArray) = s := by subst h; simp
theorem parO_text {n : Int} {d : Nat} (h : Fr n d) (hs : (rtxt (zS n) (str d)).size ≤ 400) : parO (rtxt (zS n) (str d)) = (zS n, str d, 0) := by
  have hp := h.pos
  have hlow := low_self h
  have e1 : newS n (d : Int) = zS n := by unfold newS newN; rw [if_neg (by omega), if_neg (by omega), Int.natAbs_natCast, hlow.1]
  have e2 : newT n (d : Int) = str d := by unfold newT newD; rw [if_neg (by omega), if_neg (by omega), Int.natAbs_natCast, hlow.2]
  have e3 : newE (d : Int) = 0 := by unfold newE; rw [if_neg (by omega)]
  have hdm : digL (magB (zS n)).data.toList = true := by rw [magB_zS]; exact digL_str _
  by_cases hd : d = 1
  · have ho : str d = ⟨#[49]⟩ := by rw [hd]; exact strOne
    rw [rtxt_one ho] at hs ⊢
    rw [parO_one (by omega) (not_mem_zS (by decide) (by decide) n) (not_mem_zS (by decide) (by decide) n) hdm, sgN_zS]
    have : (1 : Int) = (d : Int) := by omega
    rw [this, e1, e2, e3]
  · have ho : ¬ str d = ⟨#[49]⟩ := str_one_iff hd
    rw [rtxt_far ho] at hs ⊢
    have hl : (zS n ++ ⟨#[47]⟩ ++ str d).data.toList = (zS n).data.toList ++ 47 :: (str d).data.toList := by
      rw [cat_list, cat_list]; show (zS n).data.toList ++ [47] ++ _ = _; simp
    have hb : (⟨(zS n).data.toList.toArray⟩ : ByteArray) = zS n := mk_eq rfl
    have hq := parO_rat (s := zS n ++ ⟨#[47]⟩ ++ str d) (b := (zS n).data.toList) (r := (str d).data.toList) (by omega) hl (by rw [hb]; exact hdm) (digL_str d)
    rw [hb, sgN_zS, val_str, e1, e2, e3] at hq
    exact hq
theorem ri_parts {s t : ByteArray} (h : riB s t = true) : ∃ (n : Int) (d : Nat), s = zS n ∧ t = str d ∧ Fr n d := by
  unfold riB at h
  simp only [Bool.and_eq_true, decide_eq_true_iff] at h
  obtain ⟨⟨⟨h1, h2⟩, h3⟩, h4⟩ := h
  obtain ⟨n, e1, hn⟩ := rgY_yes h1
  obtain ⟨d, e2, hd⟩ := rgY_yes h2
  rw [e2, zV_zS] at h3 h4
  rw [e1, zV_zS] at h4
  refine ⟨n, d.natAbs, e1, ?_, ⟨by omega, h4⟩⟩
  rw [e2, zS_pos (by omega)]
theorem ri_text {s t : ByteArray} (h : riB s t = true) (hs : s.size ≤ 60) (ht : t.size ≤ 60) : parO (rtxt s t) = (s, t, 0) := by
  obtain ⟨n, d, rfl, rfl, hf⟩ := ri_parts h
  refine parO_text hf ?_
  by_cases ho : str d = ⟨#[49]⟩
  · rw [rtxt_one ho]; omega
  · rw [rtxt_far ho, ByteArray.size_append, ByteArray.size_append]; show (zS n).size + 1 + (str d).size ≤ 400; omega
end Go.Proofs.YtgkfdgdlmpggpaaGreatDoor
