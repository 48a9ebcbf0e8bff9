/-
  Texts of one seat, joined: ZCan YFew YSign ZLcm ZBez ZBz2.
-/
import Derived.Test.YtdgbplppabalgaaGreatDoorJ11
import Derived.Test.YtdgbplppabalgaaGreatDoorJ4
import Derived.Test.YtdgbplppabalgaaGreatDoorJ10
namespace Go.Proofs.YtdgbplppabalgaaGreatDoor
open Go.RowKit

def negB (s : ByteArray) : Bool := s.data.toList.head? == some 45
def magB (s : ByteArray) : ByteArray := if negB s = true then s.extract 1 s.size else s
theorem negB_at {s : ByteArray} (h : 0 < s.size) : negB s = (((s[0]'h).toNat : Int) == 45) := by
  have e := at_list s 0 h
  have hl : s.data.toList ≠ [] := by intro q; have := len_list s; rw [q] at this; simp at this; omega
  have e2 : s.data.toList.head? = some (s[0]'h) := by
    rw [List.head?_eq_getElem?, List.getElem?_eq_getElem (by rw [len_list]; exact h), e]
  unfold negB
  rw [e2, Bool.eq_iff_iff, beq_iff_eq, beq_iff_eq]
  constructor
  · intro q; have := Option.some.inj q; rw [this]; rfl
  · intro q
    have : s[0] = 45 := UInt8.toNat_inj.1 (by show _ = 45; omega)
    rw [this]
theorem negB_nil {s : ByteArray} (h : s.size = 0) : negB s = false := by
  have := len_list s
  rw [h] at this
  unfold negB
  rw [List.length_eq_zero_iff.1 this]; rfl
theorem magB_len {s : ByteArray} : (magB s).size ≤ s.size := by
  unfold magB
  split
  · rw [ByteArray.size_extract]; omega
  · exact Nat.le_refl _
theorem negB_zS (z : Int) : negB (zS z) = decide (z < 0) := by
  by_cases h : z < 0
  · rw [zS_neg h, negB_at (negS _).pos, (negS _).hd, decide_eq_true h]; rfl
  · rw [zS_pos h, negB_at (str_pos _), decide_eq_false h, beq_eq_false_iff_ne]; exact str_hd _
theorem magB_zS (z : Int) : magB (zS z) = str z.natAbs := by
  unfold magB
  rw [negB_zS]
  by_cases h : z < 0
  · rw [decide_eq_true h, if_pos rfl, zS_neg h, (negS _).tl]
  · rw [decide_eq_false h, if_neg (by decide), zS_pos h]
set_option maxHeartbeats 800000 in
theorem splitG_any (s : ByteArray) (w : World) (hs : s.size ≤ 1000001) :
    Calls Tryz.prog 115 #[.string s] w fun e w' => e = .returned (.tuple #[.bool (negB s), .string (magB s)]) ∧ Below w.heap.size w w' := by
  by_cases h0 : s.size = 0
  · have hn := negB_nil h0
    have HM := Lib.hid (show magB s = s by unfold magB; rw [hn]; rfl)
    have HN := Lib.hid hn
    have hp : ¬ (0 : Int) < s.size := by omega
    clear hn h0
    go_enter Tryz.func115, Tryz.ntmps115
    go_wp2_with fail
    go_ret2
    exact ⟨by rw [HM.out, HN.out]; rfl, Below.refl _ _⟩
  · have h0' : 0 < s.size := by omega
    have hn := negB_at h0'
    have hp : (0 : Int) < s.size := by omega
    have h1' : 1 ≤ s.size := h0'
    cases hb : (((s[0]'h0').toNat : Int) == 45) with
    | true =>
      rw [hb] at hn
      have HM := Lib.hid (show magB s = s.extract 1 s.size by unfold magB; rw [hn]; rfl)
      have HN := Lib.hid hn
      clear hn h0
      go_enter Tryz.func115, Tryz.ntmps115
      go_wp2_with fail
      go_quiet (fail)
      go_wp2_with fail
      go_ret2
      exact ⟨by rw [HM.out, HN.out]; rfl, below_drewN (Below.refl _ _) _⟩
    | false =>
      rw [hb] at hn
      have HM := Lib.hid (show magB s = s by unfold magB; rw [hn]; rfl)
      have HN := Lib.hid hn
      clear hn h0
      go_enter Tryz.func115, Tryz.ntmps115
      go_wp2_with fail
      go_ret2
      exact ⟨by rw [HM.out, HN.out]; rfl, Below.refl _ _⟩
def zCan (s : ByteArray) : Bool := canonL (magB s).data.toList && !(negB s && ((magB s).toList == [48]))
theorem zCan_yes {s : ByteArray} (h : zCan s = true) : ∃ z, s = zS z := by
  unfold zCan at h
  rw [Bool.and_eq_true, Bool.not_eq_true', Bool.and_eq_false_iff] at h
  obtain ⟨h1, h2⟩ := h
  have e := str_of h1
  cases hn : negB s with
  | false =>
    have hm : magB s = s := by unfold magB; rw [hn]; rfl
    rw [hm] at e
    exact ⟨((val s.data.toList : Nat) : Int), by rw [zS_of_nat]; exact e⟩
  | true =>
    have hm : magB s = s.extract 1 s.size := by unfold magB; rw [hn]; rfl
    have h0 : 0 < s.size := by
      rcases Nat.eq_zero_or_pos s.size with hz | hz
      · rw [negB_nil hz] at hn; cases hn
      · exact hz
    rcases h2 with h2 | h2
    · rw [hn] at h2; cases h2
    · obtain ⟨n, hnn⟩ : ∃ n, n = val (magB s).data.toList := ⟨_, rfl⟩
      rw [← hnn] at e
      have hn0 : n ≠ 0 := by
        intro hz
        rw [e, hz, str_tl, dd0] at h2; simp at h2
      refine ⟨-(n : Int), ?_⟩
      rw [zS_of_neg n hn0, ← e, hm]
      have hat := negB_at h0
      rw [hn] at hat
      have h45 : (s[0]'h0) = 45 := by
        have := beq_iff_eq.1 hat.symm
        exact UInt8.toNat_inj.1 (by show _ = 45; omega)
      apply ByteArray.ext
      rw [ByteArray.data_append, ByteArray.data_extract]
      apply Array.toList_inj.1
      rw [Array.toList_append, Array.toList_extract]
      have hl := len_list s
      have hg := at_list s 0 h0
      rw [h45] at hg
      cases hq : s.data.toList with
      | nil => rw [hq] at hl; simp at hl; omega
      | cons c l =>
        rw [hq] at hl
        have hc : c = 45 := by rw [← hg]; simp [hq]
        rw [hc]
        simp [List.extract]
        rw [List.take_of_length_le]; simp at hl; omega
theorem zCan_zS (z : Int) : zCan (zS z) = true := by
  unfold zCan
  rw [negB_zS, magB_zS, canon_str]
  by_cases h : z < 0
  · rw [decide_eq_true h, tl_ne (str_not48 (by omega))]; rfl
  · rw [decide_eq_false h]; rfl
set_option maxHeartbeats 800000 in
theorem canonW_any (s : ByteArray) (w : World) (hs : s.size ≤ 1000001) :
    Calls Tryz.prog 109 #[.string s] w fun e w' => e = .returned (.bool (zCan s)) ∧ Below w.heap.size w w' := by
  have HS := Lib.hid (fun wx => splitG_any s wx hs)
  have hl := magB_len (s := s)
  have HC := Lib.hid (fun wx => canonical_any (magB s) wx (by omega))
  have HV := Lib.hid (show zCan s = (canonL (magB s).data.toList && !(negB s && ((magB s).toList == [48]))) from rfl)
  obtain ⟨c, hc⟩ : ∃ c, c = canonL (magB s).data.toList := ⟨_, rfl⟩
  obtain ⟨n, hn⟩ : ∃ n, n = negB s := ⟨_, rfl⟩
  obtain ⟨m, hm⟩ : ∃ m, m = magB s := ⟨_, rfl⟩
  obtain ⟨V, hV⟩ : ∃ V, V = zCan s := ⟨_, rfl⟩
  rw [← hc] at HC HV
  rw [← hm] at HS HC HV
  rw [← hn] at HS HV
  rw [← hV] at HV ⊢
  clear hc hn hm hV hl hs
  cases c
  · go_enter Tryz.func109, Tryz.ntmps109
    go_wp2_with fail
    refine (HS.out _).mono ?_
    rintro e w1 ⟨rfl, h1⟩
    have B1 := Lib.hid h1
    clear h1
    go_wp2_with fail
    refine (HC.out _).mono ?_
    rintro e w2 ⟨rfl, rfl⟩
    go_wp2_with fail
    go_ret
    exact ⟨by rw [HV.out]; rfl, B1.out⟩
  · cases n
    · go_enter Tryz.func109, Tryz.ntmps109
      go_wp2_with fail
      refine (HS.out _).mono ?_
      rintro e w1 ⟨rfl, h1⟩
      have B1 := Lib.hid h1
      clear h1
      go_wp2_with fail
      refine (HC.out _).mono ?_
      rintro e w2 ⟨rfl, rfl⟩
      go_wp2_with fail
      go_ret
      exact ⟨by rw [HV.out]; rfl, B1.out⟩
    · cases hz : (m.toList == [48])
      · rw [hz] at HV
        go_enter Tryz.func109, Tryz.ntmps109
        go_wp2_with fail
        refine (HS.out _).mono ?_
        rintro e w1 ⟨rfl, h1⟩
        have B1 := Lib.hid h1
        clear h1
        go_wp2_with fail
        refine (HC.out _).mono ?_
        rintro e w2 ⟨rfl, rfl⟩
        go_wp2_with fail
        go_ret
        exact ⟨by rw [HV.out]; rfl, B1.out⟩
      · rw [hz] at HV
        go_enter Tryz.func109, Tryz.ntmps109
        go_wp2_with fail
        refine (HS.out _).mono ?_
        rintro e w1 ⟨rfl, h1⟩
        have B1 := Lib.hid h1
        clear h1
        go_wp2_with fail
        refine (HC.out _).mono ?_
        rintro e w2 ⟨rfl, rfl⟩
        go_wp2_with fail
        go_ret
        exact ⟨by rw [HV.out]; rfl, B1.out⟩
set_option maxHeartbeats 400000 in
theorem absG_any (s : ByteArray) (w : World) (hs : s.size ≤ 1000001) :
    Calls Tryz.prog 98 #[.string s] w fun e w' => e = .returned (.string (magB s)) ∧ Below w.heap.size w w' := by
  have HX := Lib.hid (fun wx => splitG_any s wx hs)
  obtain ⟨m, hm⟩ : ∃ m, m = magB s := ⟨_, rfl⟩
  obtain ⟨n, hn⟩ : ∃ n, n = negB s := ⟨_, rfl⟩
  rw [← hm] at HX ⊢
  rw [← hn] at HX
  clear hs hm hn
  go_enter Tryz.func98, Tryz.ntmps98
  go_wp2_with fail
  refine (HX.out _).mono ?_
  rintro e w1 ⟨rfl, h1⟩
  have B1 := Lib.hid h1
  clear h1
  go_wp2_with fail
  go_ret
  exact ⟨rfl, B1.out⟩
set_option maxHeartbeats 400000 in
theorem digitsN_any (s : ByteArray) (w : World) :
    Calls Tryz.prog 110 #[.string s] w fun e w' => e = .returned (.int .i64 s.size) ∧ w = w' := by
  go_enter Tryz.func110, Tryz.ntmps110
  go_wp2
  go_ret
  exact ⟨rfl, rfl⟩
def chkZ (s : ByteArray) : Int := if zCan s = true ∧ (magB s).size ≤ 400 then 0 else 2
set_option maxHeartbeats 800000 in
theorem checkW_any (s : ByteArray) (w : World) (hs : s.size ≤ 1000001) :
    Calls Tryz.prog 64 #[.string s] w fun e w' => e = .returned (.int .i64 (chkZ s)) ∧ Below w.heap.size w w' := by
  have HC := Lib.hid (fun wx => canonW_any s wx hs)
  have HA := Lib.hid (fun wx => absG_any s wx hs)
  have hl := magB_len (s := s)
  have HD := Lib.hid (fun wx => digitsN_any (magB s) wx)
  have hV : chkZ s = if zCan s = true ∧ (magB s).size ≤ 400 then 0 else 2 := rfl
  obtain ⟨c, hc⟩ : ∃ c, c = zCan s := ⟨_, rfl⟩
  obtain ⟨m, hm⟩ : ∃ m, m = magB s := ⟨_, rfl⟩
  obtain ⟨V, hVV⟩ : ∃ V, V = chkZ s := ⟨_, rfl⟩
  rw [← hc] at HC hV
  rw [← hm] at HA HD hV hl
  rw [← hVV] at hV ⊢
  clear hc hm hVV
  cases c
  · have HV := Lib.hid (show V = 2 by rw [hV]; rfl)
    clear hV hl hs HA HD
    go_enter Tryz.func64, Tryz.ntmps64
    go_wp2_with fail
    refine (HC.out _).mono ?_
    rintro e w1 ⟨rfl, h1⟩
    have B1 := Lib.hid h1
    clear h1
    go_wp2_with fail
    go_ret
    exact ⟨by rw [HV.out]; rfl, B1.out⟩
  · by_cases h4 : m.size ≤ 400
    · have HV := Lib.hid (show V = 0 by rw [hV, if_pos ⟨rfl, h4⟩])
      have hd : decide ((400 : Int) < m.size) = false := decide_eq_false (by omega)
      clear hV hl hs h4
      go_enter Tryz.func64, Tryz.ntmps64
      go_wp2_with fail
      refine (HC.out _).mono ?_
      rintro e w1 ⟨rfl, h1⟩
      have B1 := Lib.hid h1
      clear h1
      go_wp2_with fail
      refine (HA.out _).mono ?_
      rintro e w2 ⟨rfl, h2⟩
      have B2 := Lib.hid (B1.out.trans (h2.mono B1.out.size))
      clear h2
      go_wp2_with fail
      refine (HD.out _).mono ?_
      rintro e w3 ⟨rfl, rfl⟩
      go_wp2_with fail
      go_ret
      exact ⟨by rw [HV.out]; rfl, B2.out⟩
    · have HV := Lib.hid (show V = 2 by rw [hV, if_neg (fun q => h4 q.2)])
      have hd : decide ((400 : Int) < m.size) = true := decide_eq_true (by omega)
      clear hV hl hs h4
      go_enter Tryz.func64, Tryz.ntmps64
      go_wp2_with fail
      refine (HC.out _).mono ?_
      rintro e w1 ⟨rfl, h1⟩
      have B1 := Lib.hid h1
      clear h1
      go_wp2_with fail
      refine (HA.out _).mono ?_
      rintro e w2 ⟨rfl, h2⟩
      have B2 := Lib.hid (B1.out.trans (h2.mono B1.out.size))
      clear h2
      go_wp2_with fail
      refine (HD.out _).mono ?_
      rintro e w3 ⟨rfl, rfl⟩
      go_wp2_with fail
      go_ret
      exact ⟨by rw [HV.out]; rfl, B2.out⟩
end Go.Proofs.YtdgbplppabalgaaGreatDoor

namespace Go.Proofs.YtdgbplppabalgaaGreatDoor
open Go.RowKit

abbrev ratO (n d : ByteArray) : Obj := .cells #[.string n, .string d] 24
abbrev ratV (n d : ByteArray) : Value := .agg #[.string n, .string d]
/-- the box of a fraction -/
structure BxR (W : World) (g : Nat) (n d : ByteArray) : Prop where
  lt : g < W.heap.size
  num : W.cell? ⟨g, 0, none⟩ = some (.string n)
  den : W.cell? ⟨g, 1, none⟩ = some (.string d)
theorem BxR.below {W W' : World} {g : Nat} {n d : ByteArray} (h : BxR W g n d) (hb : Below W.heap.size W W') : BxR W' g n d :=
  ⟨Nat.lt_of_lt_of_le h.lt hb.size, by rw [hb.cell (p := ⟨g, 0, none⟩) h.lt]; exact h.num, by rw [hb.cell (p := ⟨g, 1, none⟩) h.lt]; exact h.den⟩
theorem BxR.new (w : World) (n d : ByteArray) : BxR (w.alloc (ratO n d)) w.heap.size n d :=
  ⟨by show _ < (w.heap.push _).size; rw [Array.size_push]; omega, by rw [World.cell?_alloc_new]; rfl, by rw [World.cell?_alloc_new]; rfl⟩
/-- a box of two cells, of the call's own -/
def BxT (w : World) (B g : Nat) (T : TypeId) (u v : Value) : Prop := w.ownsRow B T 1 (.slice (some ⟨g, 0, none⟩) 2 2) 2 [u, v]
theorem BxT.new (w : World) (B : Nat) (hB : B ≤ w.heap.size) (T : TypeId) (u v : Value) : BxT (w.alloc (.cells #[u, v] T)) B w.heap.size T u v := World.ownsRow_lit w #[u, v] 2 hB (by unfold maxLen; decide) rfl
theorem BxT.c0 {w : World} {B g : Nat} {T : TypeId} {u v : Value} (h : BxT w B g T u v) : w.cell? ⟨g, 0, none⟩ = some u := by rw [World.ownsRow.cellAt h 0 (by decide)]; rfl
theorem BxT.c1 {w : World} {B g : Nat} {T : TypeId} {u v : Value} (h : BxT w B g T u v) : w.cell? ⟨g, 1, none⟩ = some v := by rw [World.ownsRow.cellAt h 1 (by decide)]; rfl
theorem BxT.free {w : World} {B g : Nat} {T : TypeId} {u v : Value} (h : BxT w B g T u v) (i : Nat) : w.frozen? ⟨g, i, none⟩ = false := World.ownsRow.frozenAt h i
theorem BxT.set0 {w : World} {B g : Nat} {T : TypeId} {u v : Value} (h : BxT w B g T u v) (x : Value) : BxT (w.setCell ⟨g, 0, none⟩ x) B g T x v := (World.ownsRow.stored h 0 x).1
theorem BxT.set1 {w : World} {B g : Nat} {T : TypeId} {u v : Value} (h : BxT w B g T u v) (x : Value) : BxT (w.setCell ⟨g, 1, none⟩ x) B g T u x := (World.ownsRow.stored h 1 x).1
theorem BxT.kept {w w' : World} {B g : Nat} {T : TypeId} {u v : Value} (h : BxT w B g T u v) (hb : Below w.heap.size w w') : BxT w' B g T u v := by
  refine World.ownsRow.kept (row := none) h ⟨hb.os, hb.tape, hb.output, hb.size, fun j hj _ => hb.block j hj⟩ (.inr (by simp [Value.ownBlock]))
theorem BxT.lt {w : World} {B g : Nat} {T : TypeId} {u v : Value} (h : BxT w B g T u v) : B ≤ g ∧ g < w.heap.size := World.ownsRow.lt h g rfl
theorem push_size (w : World) (o : Obj) : (w.alloc o).heap.size = w.heap.size + 1 := by show (w.heap.push o).size = _; exact Array.size_push _
def fewOk (n d : Int) : Prop := -1000000000000000000 < n ∧ n < 1000000000000000000 ∧ 0 < d ∧ d < 1000000000000000000
theorem fewOk_in {n d : Int} (h : fewOk n d) : inI n = true ∧ inI d = true ∧ smV n = n ∧ smV d = d := by
  obtain ⟨h1, h2, h3, h4⟩ := h
  have a : inI n = true := by unfold inI; rw [decide_eq_true (by omega), decide_eq_true (by omega)]; rfl
  have b : inI d = true := by unfold inI; rw [decide_eq_true (by omega), decide_eq_true (by omega)]; rfl
  exact ⟨a, b, by unfold smV; rw [if_pos a], by unfold smV; rw [if_pos b]⟩
set_option maxHeartbeats 1600000 in
theorem fewF_yes (n d : Int) (w : World) (hs : Std w) (h : fewOk n d) (hn : (str n.natAbs).size ≤ 1000000) (hd : (str d.natAbs).size ≤ 1000000) :
    Calls Tryz.prog 67 #[ratV (zS n) (zS d)] w fun e w' => e = .returned (.tuple #[.agg #[.int .i64 n, .int .i64 d], .bool true]) ∧ Below w.heap.size w w' := by
  obtain ⟨i1, i2, i3, i4⟩ := fewOk_in h
  obtain ⟨h1, h2, h3, h4⟩ := h
  have hN := fun wx hw => smallW_any n wx hw hn
  have hD := fun wx hw => smallW_any d wx hw hd
  rw [i1, i3] at hN
  rw [i2, i4] at hD
  have HN := Lib.hid hN
  have HD := Lib.hid hD
  have HS := Lib.hid hs
  have d1 : decide (n ≤ -1000000000000000000) = false := decide_eq_false (by omega)
  have d2 : decide (n ≥ 1000000000000000000) = false := decide_eq_false (by omega)
  have d3 : decide (d ≤ 0) = false := decide_eq_false (by omega)
  have d4 : decide (d ≥ 1000000000000000000) = false := decide_eq_false (by omega)
  obtain ⟨s, hs2⟩ : ∃ s, s = zS n := ⟨_, rfl⟩
  obtain ⟨t, ht⟩ : ∃ s, s = zS d := ⟨_, rfl⟩
  rw [← hs2] at HN ⊢
  rw [← ht] at HD ⊢
  clear hs2 ht hN hD i1 i2 i3 i4 hn hd hs
  go_enter Tryz.func67, Tryz.ntmps67
  go_wp2_with fail
  obtain ⟨W0, hW0⟩ : ∃ W0, W0 = (w.alloc (ratO s t)).alloc (.cells #[.int .i64 0, .int .i64 0] 78) := ⟨_, rfl⟩
  have HB0 := Lib.hid (show Below w.heap.size w W0 by rw [hW0]; exact ((Below.refl _ w).alloc (Nat.le_refl _) _).alloc (by rw [push_size]; omega) _)
  have HX := Lib.hid (show BxR W0 w.heap.size s t by rw [hW0]; exact (BxR.new w s t).below ((Below.refl _ _).alloc (Nat.le_refl _) _))
  have HR := Lib.hid (show BxT W0 w.heap.size (w.heap.size + 1) 78 (.int .i64 0) (.int .i64 0) by
    have h := BxT.new (w.alloc (ratO s t)) w.heap.size (by rw [push_size]; omega) 78 (.int .i64 0) (.int .i64 0)
    rw [push_size, ← hW0] at h; exact h)
  rw [← hW0]
  clear hW0
  refine (HN.out _ (HS.out.below HB0.out)).mono ?_
  rintro e w1 ⟨rfl, q1⟩
  have B1 := Lib.hid (HB0.out.trans (q1.mono HB0.out.size))
  have X1 := Lib.hid (HX.out.below q1)
  have R1 := Lib.hid (HR.out.kept q1)
  have c1 := X1.out.den
  clear q1
  go_wp2_with fail
  refine (HD.out _ (HS.out.below B1.out)).mono ?_
  rintro e w2 ⟨rfl, q2⟩
  have B2 := Lib.hid (B1.out.trans (q2.mono B1.out.size))
  have R2 := Lib.hid (R1.out.kept q2)
  have f0 := R2.out.free 0
  have f1 := R2.out.free 1
  have e0 := R2.out.c0
  have e1 := R2.out.c1
  have S0 := R2.out.set0 (.int .i64 n)
  have S1 := S0.set1 (.int .i64 d)
  have g1 := S0.c1
  have g2 := S0.free 1
  have k0 := S1.c0
  have k1 := S1.c1
  have HBE := Lib.hid ((B2.out.setCell (p := ⟨w.heap.size + 1, 0, none⟩) (by show w.heap.size ≤ w.heap.size + 1; omega) (.int .i64 n)).setCell (p := ⟨w.heap.size + 1, 1, none⟩) (by show w.heap.size ≤ w.heap.size + 1; omega) (.int .i64 d))
  clear q2 S0 S1
  go_wp2_with fail
  (try simp only [Exit.inBlock, Exit.then])
  refine bodyPost_ret (v := .tuple #[.agg #[.int .i64 n, .int .i64 d], .bool true]) ?_ rfl ⟨rfl, HBE.out⟩
  rw [results_cell_tmp rfl]
  go_simp
set_option maxHeartbeats 3200000 in
theorem fewF_no (n d : Int) (w : World) (hs : Std w) (h : ¬ fewOk n d) (hn : (str n.natAbs).size ≤ 1000000) (hd : (str d.natAbs).size ≤ 1000000) :
    Calls Tryz.prog 67 #[ratV (zS n) (zS d)] w fun e w' => e = .returned (.tuple #[.agg #[.int .i64 0, .int .i64 0], .bool false]) ∧ Below w.heap.size w w' := by
  have HN := Lib.hid (fun wx hw => smallW_any n wx hw hn)
  have HD := Lib.hid (fun wx hw => smallW_any d wx hw hd)
  have HS := Lib.hid hs
  have hno : inI n = false ∨ (inI n = true ∧ inI d = false) ∨ (inI n = true ∧ inI d = true ∧ ¬ fewOk (smV n) (smV d)) := by
    cases hi : inI n with
    | false => exact .inl rfl
    | true =>
      cases hj : inI d with
      | false => exact .inr (.inl ⟨rfl, rfl⟩)
      | true => exact .inr (.inr ⟨rfl, rfl, by unfold smV; rw [if_pos hi, if_pos hj]; exact h⟩)
  obtain ⟨a, ha⟩ : ∃ a, a = smV n := ⟨_, rfl⟩
  obtain ⟨b, hb⟩ : ∃ a, a = smV d := ⟨_, rfl⟩
  obtain ⟨p, hp⟩ : ∃ a, a = inI n := ⟨_, rfl⟩
  obtain ⟨q, hq⟩ : ∃ a, a = inI d := ⟨_, rfl⟩
  rw [← ha, ← hp] at HN
  rw [← hb, ← hq] at HD
  rw [← hp, ← hq, ← ha, ← hb] at hno
  obtain ⟨s, hs2⟩ : ∃ s, s = zS n := ⟨_, rfl⟩
  obtain ⟨t, ht⟩ : ∃ s, s = zS d := ⟨_, rfl⟩
  rw [← hs2] at HN ⊢
  rw [← ht] at HD ⊢
  clear hs2 ht ha hb hp hq hn hd hs h
  rcases hno with rfl | ⟨rfl, rfl⟩ | ⟨rfl, rfl, hno⟩
  · go_enter Tryz.func67, Tryz.ntmps67
    go_wp2_with fail
    obtain ⟨W0, hW0⟩ : ∃ W0, W0 = (w.alloc (ratO s t)).alloc (.cells #[.int .i64 0, .int .i64 0] 78) := ⟨_, rfl⟩
    have HB0 := Lib.hid (show Below w.heap.size w W0 by rw [hW0]; exact ((Below.refl _ w).alloc (Nat.le_refl _) _).alloc (by rw [push_size]; omega) _)
    have HX := Lib.hid (show BxR W0 w.heap.size s t by rw [hW0]; exact (BxR.new w s t).below ((Below.refl _ _).alloc (Nat.le_refl _) _))
    have HR := Lib.hid (show BxT W0 w.heap.size (w.heap.size + 1) 78 (.int .i64 0) (.int .i64 0) by
      have h := BxT.new (w.alloc (ratO s t)) w.heap.size (by rw [push_size]; omega) 78 (.int .i64 0) (.int .i64 0)
      rw [push_size, ← hW0] at h; exact h)
    rw [← hW0]
    clear hW0
    refine (HN.out _ (HS.out.below HB0.out)).mono ?_
    rintro e w1 ⟨rfl, q1⟩
    have B1 := Lib.hid (HB0.out.trans (q1.mono HB0.out.size))
    have X1 := Lib.hid (HX.out.below q1)
    have R1 := Lib.hid (HR.out.kept q1)
    have c1 := X1.out.den
    clear q1
    go_wp2_with fail
    refine (HD.out _ (HS.out.below B1.out)).mono ?_
    rintro e w2 ⟨rfl, q2⟩
    have B2 := Lib.hid (B1.out.trans (q2.mono B1.out.size))
    have R2 := Lib.hid (R1.out.kept q2)
    have f0 := R2.out.free 0
    have f1 := R2.out.free 1
    have e0 := R2.out.c0
    have e1 := R2.out.c1
    have S0 := R2.out.set0 (.int .i64 0)
    have S1 := S0.set1 (.int .i64 0)
    have g1 := S0.c1
    have g2 := S0.free 1
    have k0 := S1.c0
    have k1 := S1.c1
    have HBE := Lib.hid ((B2.out.setCell (p := ⟨w.heap.size + 1, 0, none⟩) (by show w.heap.size ≤ w.heap.size + 1; omega) (.int .i64 0)).setCell (p := ⟨w.heap.size + 1, 1, none⟩) (by show w.heap.size ≤ w.heap.size + 1; omega) (.int .i64 0))
    clear q2 S0 S1
    go_wp2_with fail
    (try simp only [Exit.inBlock, Exit.then])
    refine bodyPost_ret (v := .tuple #[.agg #[.int .i64 0, .int .i64 0], .bool false]) ?_ rfl ⟨rfl, HBE.out⟩
    rw [results_cell_tmp rfl]
    go_simp
  · go_enter Tryz.func67, Tryz.ntmps67
    go_wp2_with fail
    obtain ⟨W0, hW0⟩ : ∃ W0, W0 = (w.alloc (ratO s t)).alloc (.cells #[.int .i64 0, .int .i64 0] 78) := ⟨_, rfl⟩
    have HB0 := Lib.hid (show Below w.heap.size w W0 by rw [hW0]; exact ((Below.refl _ w).alloc (Nat.le_refl _) _).alloc (by rw [push_size]; omega) _)
    have HX := Lib.hid (show BxR W0 w.heap.size s t by rw [hW0]; exact (BxR.new w s t).below ((Below.refl _ _).alloc (Nat.le_refl _) _))
    have HR := Lib.hid (show BxT W0 w.heap.size (w.heap.size + 1) 78 (.int .i64 0) (.int .i64 0) by
      have h := BxT.new (w.alloc (ratO s t)) w.heap.size (by rw [push_size]; omega) 78 (.int .i64 0) (.int .i64 0)
      rw [push_size, ← hW0] at h; exact h)
    rw [← hW0]
    clear hW0
    refine (HN.out _ (HS.out.below HB0.out)).mono ?_
    rintro e w1 ⟨rfl, q1⟩
    have B1 := Lib.hid (HB0.out.trans (q1.mono HB0.out.size))
    have X1 := Lib.hid (HX.out.below q1)
    have R1 := Lib.hid (HR.out.kept q1)
    have c1 := X1.out.den
    clear q1
    go_wp2_with fail
    refine (HD.out _ (HS.out.below B1.out)).mono ?_
    rintro e w2 ⟨rfl, q2⟩
    have B2 := Lib.hid (B1.out.trans (q2.mono B1.out.size))
    have R2 := Lib.hid (R1.out.kept q2)
    have f0 := R2.out.free 0
    have f1 := R2.out.free 1
    have e0 := R2.out.c0
    have e1 := R2.out.c1
    have S0 := R2.out.set0 (.int .i64 0)
    have S1 := S0.set1 (.int .i64 0)
    have g1 := S0.c1
    have g2 := S0.free 1
    have k0 := S1.c0
    have k1 := S1.c1
    have HBE := Lib.hid ((B2.out.setCell (p := ⟨w.heap.size + 1, 0, none⟩) (by show w.heap.size ≤ w.heap.size + 1; omega) (.int .i64 0)).setCell (p := ⟨w.heap.size + 1, 1, none⟩) (by show w.heap.size ≤ w.heap.size + 1; omega) (.int .i64 0))
    clear q2 S0 S1
    go_wp2_with fail
    (try simp only [Exit.inBlock, Exit.then])
    refine bodyPost_ret (v := .tuple #[.agg #[.int .i64 0, .int .i64 0], .bool false]) ?_ rfl ⟨rfl, HBE.out⟩
    rw [results_cell_tmp rfl]
    go_simp
  · by_cases e1 : a ≤ -1000000000000000000
    · have d1 : decide (a ≤ -1000000000000000000) = true := decide_eq_true e1
      go_enter Tryz.func67, Tryz.ntmps67
      go_wp2_with fail
      obtain ⟨W0, hW0⟩ : ∃ W0, W0 = (w.alloc (ratO s t)).alloc (.cells #[.int .i64 0, .int .i64 0] 78) := ⟨_, rfl⟩
      have HB0 := Lib.hid (show Below w.heap.size w W0 by rw [hW0]; exact ((Below.refl _ w).alloc (Nat.le_refl _) _).alloc (by rw [push_size]; omega) _)
      have HX := Lib.hid (show BxR W0 w.heap.size s t by rw [hW0]; exact (BxR.new w s t).below ((Below.refl _ _).alloc (Nat.le_refl _) _))
      have HR := Lib.hid (show BxT W0 w.heap.size (w.heap.size + 1) 78 (.int .i64 0) (.int .i64 0) by
        have h := BxT.new (w.alloc (ratO s t)) w.heap.size (by rw [push_size]; omega) 78 (.int .i64 0) (.int .i64 0)
        rw [push_size, ← hW0] at h; exact h)
      rw [← hW0]
      clear hW0
      refine (HN.out _ (HS.out.below HB0.out)).mono ?_
      rintro e w1 ⟨rfl, q1⟩
      have B1 := Lib.hid (HB0.out.trans (q1.mono HB0.out.size))
      have X1 := Lib.hid (HX.out.below q1)
      have R1 := Lib.hid (HR.out.kept q1)
      have c1 := X1.out.den
      clear q1
      go_wp2_with fail
      refine (HD.out _ (HS.out.below B1.out)).mono ?_
      rintro e w2 ⟨rfl, q2⟩
      have B2 := Lib.hid (B1.out.trans (q2.mono B1.out.size))
      have R2 := Lib.hid (R1.out.kept q2)
      have f0 := R2.out.free 0
      have f1 := R2.out.free 1
      have e0 := R2.out.c0
      have e1 := R2.out.c1
      have S0 := R2.out.set0 (.int .i64 0)
      have S1 := S0.set1 (.int .i64 0)
      have g1 := S0.c1
      have g2 := S0.free 1
      have k0 := S1.c0
      have k1 := S1.c1
      have HBE := Lib.hid ((B2.out.setCell (p := ⟨w.heap.size + 1, 0, none⟩) (by show w.heap.size ≤ w.heap.size + 1; omega) (.int .i64 0)).setCell (p := ⟨w.heap.size + 1, 1, none⟩) (by show w.heap.size ≤ w.heap.size + 1; omega) (.int .i64 0))
      clear q2 S0 S1
      go_wp2_with fail
      (try simp only [Exit.inBlock, Exit.then])
      refine bodyPost_ret (v := .tuple #[.agg #[.int .i64 0, .int .i64 0], .bool false]) ?_ rfl ⟨rfl, HBE.out⟩
      rw [results_cell_tmp rfl]
      go_simp
    · have d1 : decide (a ≤ -1000000000000000000) = false := decide_eq_false e1
      by_cases e2 : a ≥ 1000000000000000000
      · have d2 : decide (a ≥ 1000000000000000000) = true := decide_eq_true e2
        go_enter Tryz.func67, Tryz.ntmps67
        go_wp2_with fail
        obtain ⟨W0, hW0⟩ : ∃ W0, W0 = (w.alloc (ratO s t)).alloc (.cells #[.int .i64 0, .int .i64 0] 78) := ⟨_, rfl⟩
        have HB0 := Lib.hid (show Below w.heap.size w W0 by rw [hW0]; exact ((Below.refl _ w).alloc (Nat.le_refl _) _).alloc (by rw [push_size]; omega) _)
        have HX := Lib.hid (show BxR W0 w.heap.size s t by rw [hW0]; exact (BxR.new w s t).below ((Below.refl _ _).alloc (Nat.le_refl _) _))
        have HR := Lib.hid (show BxT W0 w.heap.size (w.heap.size + 1) 78 (.int .i64 0) (.int .i64 0) by
          have h := BxT.new (w.alloc (ratO s t)) w.heap.size (by rw [push_size]; omega) 78 (.int .i64 0) (.int .i64 0)
          rw [push_size, ← hW0] at h; exact h)
        rw [← hW0]
        clear hW0
        refine (HN.out _ (HS.out.below HB0.out)).mono ?_
        rintro e w1 ⟨rfl, q1⟩
        have B1 := Lib.hid (HB0.out.trans (q1.mono HB0.out.size))
        have X1 := Lib.hid (HX.out.below q1)
        have R1 := Lib.hid (HR.out.kept q1)
        have c1 := X1.out.den
        clear q1
        go_wp2_with fail
        refine (HD.out _ (HS.out.below B1.out)).mono ?_
        rintro e w2 ⟨rfl, q2⟩
        have B2 := Lib.hid (B1.out.trans (q2.mono B1.out.size))
        have R2 := Lib.hid (R1.out.kept q2)
        have f0 := R2.out.free 0
        have f1 := R2.out.free 1
        have e0 := R2.out.c0
        have e1 := R2.out.c1
        have S0 := R2.out.set0 (.int .i64 0)
        have S1 := S0.set1 (.int .i64 0)
        have g1 := S0.c1
        have g2 := S0.free 1
        have k0 := S1.c0
        have k1 := S1.c1
        have HBE := Lib.hid ((B2.out.setCell (p := ⟨w.heap.size + 1, 0, none⟩) (by show w.heap.size ≤ w.heap.size + 1; omega) (.int .i64 0)).setCell (p := ⟨w.heap.size + 1, 1, none⟩) (by show w.heap.size ≤ w.heap.size + 1; omega) (.int .i64 0))
        clear q2 S0 S1
        go_wp2_with fail
        (try simp only [Exit.inBlock, Exit.then])
        refine bodyPost_ret (v := .tuple #[.agg #[.int .i64 0, .int .i64 0], .bool false]) ?_ rfl ⟨rfl, HBE.out⟩
        rw [results_cell_tmp rfl]
        go_simp
      · have d2 : decide (a ≥ 1000000000000000000) = false := decide_eq_false e2
        by_cases e3 : b ≤ 0
        · have d3 : decide (b ≤ 0) = true := decide_eq_true e3
          go_enter Tryz.func67, Tryz.ntmps67
          go_wp2_with fail
          obtain ⟨W0, hW0⟩ : ∃ W0, W0 = (w.alloc (ratO s t)).alloc (.cells #[.int .i64 0, .int .i64 0] 78) := ⟨_, rfl⟩
          have HB0 := Lib.hid (show Below w.heap.size w W0 by rw [hW0]; exact ((Below.refl _ w).alloc (Nat.le_refl _) _).alloc (by rw [push_size]; omega) _)
          have HX := Lib.hid (show BxR W0 w.heap.size s t by rw [hW0]; exact (BxR.new w s t).below ((Below.refl _ _).alloc (Nat.le_refl _) _))
          have HR := Lib.hid (show BxT W0 w.heap.size (w.heap.size + 1) 78 (.int .i64 0) (.int .i64 0) by
            have h := BxT.new (w.alloc (ratO s t)) w.heap.size (by rw [push_size]; omega) 78 (.int .i64 0) (.int .i64 0)
            rw [push_size, ← hW0] at h; exact h)
          rw [← hW0]
          clear hW0
          refine (HN.out _ (HS.out.below HB0.out)).mono ?_
          rintro e w1 ⟨rfl, q1⟩
          have B1 := Lib.hid (HB0.out.trans (q1.mono HB0.out.size))
          have X1 := Lib.hid (HX.out.below q1)
          have R1 := Lib.hid (HR.out.kept q1)
          have c1 := X1.out.den
          clear q1
          go_wp2_with fail
          refine (HD.out _ (HS.out.below B1.out)).mono ?_
          rintro e w2 ⟨rfl, q2⟩
          have B2 := Lib.hid (B1.out.trans (q2.mono B1.out.size))
          have R2 := Lib.hid (R1.out.kept q2)
          have f0 := R2.out.free 0
          have f1 := R2.out.free 1
          have e0 := R2.out.c0
          have e1 := R2.out.c1
          have S0 := R2.out.set0 (.int .i64 0)
          have S1 := S0.set1 (.int .i64 0)
          have g1 := S0.c1
          have g2 := S0.free 1
          have k0 := S1.c0
          have k1 := S1.c1
          have HBE := Lib.hid ((B2.out.setCell (p := ⟨w.heap.size + 1, 0, none⟩) (by show w.heap.size ≤ w.heap.size + 1; omega) (.int .i64 0)).setCell (p := ⟨w.heap.size + 1, 1, none⟩) (by show w.heap.size ≤ w.heap.size + 1; omega) (.int .i64 0))
          clear q2 S0 S1
          go_wp2_with fail
          (try simp only [Exit.inBlock, Exit.then])
          refine bodyPost_ret (v := .tuple #[.agg #[.int .i64 0, .int .i64 0], .bool false]) ?_ rfl ⟨rfl, HBE.out⟩
          rw [results_cell_tmp rfl]
          go_simp
        · have d3 : decide (b ≤ 0) = false := decide_eq_false e3
          have e4 : b ≥ 1000000000000000000 := by unfold fewOk at hno; omega
          have d4 : decide (b ≥ 1000000000000000000) = true := decide_eq_true e4
          go_enter Tryz.func67, Tryz.ntmps67
          go_wp2_with fail
          obtain ⟨W0, hW0⟩ : ∃ W0, W0 = (w.alloc (ratO s t)).alloc (.cells #[.int .i64 0, .int .i64 0] 78) := ⟨_, rfl⟩
          have HB0 := Lib.hid (show Below w.heap.size w W0 by rw [hW0]; exact ((Below.refl _ w).alloc (Nat.le_refl _) _).alloc (by rw [push_size]; omega) _)
          have HX := Lib.hid (show BxR W0 w.heap.size s t by rw [hW0]; exact (BxR.new w s t).below ((Below.refl _ _).alloc (Nat.le_refl _) _))
          have HR := Lib.hid (show BxT W0 w.heap.size (w.heap.size + 1) 78 (.int .i64 0) (.int .i64 0) by
            have h := BxT.new (w.alloc (ratO s t)) w.heap.size (by rw [push_size]; omega) 78 (.int .i64 0) (.int .i64 0)
            rw [push_size, ← hW0] at h; exact h)
          rw [← hW0]
          clear hW0
          refine (HN.out _ (HS.out.below HB0.out)).mono ?_
          rintro e w1 ⟨rfl, q1⟩
          have B1 := Lib.hid (HB0.out.trans (q1.mono HB0.out.size))
          have X1 := Lib.hid (HX.out.below q1)
          have R1 := Lib.hid (HR.out.kept q1)
          have c1 := X1.out.den
          clear q1
          go_wp2_with fail
          refine (HD.out _ (HS.out.below B1.out)).mono ?_
          rintro e w2 ⟨rfl, q2⟩
          have B2 := Lib.hid (B1.out.trans (q2.mono B1.out.size))
          have R2 := Lib.hid (R1.out.kept q2)
          have f0 := R2.out.free 0
          have f1 := R2.out.free 1
          have e0 := R2.out.c0
          have e1 := R2.out.c1
          have S0 := R2.out.set0 (.int .i64 0)
          have S1 := S0.set1 (.int .i64 0)
          have g1 := S0.c1
          have g2 := S0.free 1
          have k0 := S1.c0
          have k1 := S1.c1
          have HBE := Lib.hid ((B2.out.setCell (p := ⟨w.heap.size + 1, 0, none⟩) (by show w.heap.size ≤ w.heap.size + 1; omega) (.int .i64 0)).setCell (p := ⟨w.heap.size + 1, 1, none⟩) (by show w.heap.size ≤ w.heap.size + 1; omega) (.int .i64 0))
          clear q2 S0 S1
          go_wp2_with fail
          (try simp only [Exit.inBlock, Exit.then])
          refine bodyPost_ret (v := .tuple #[.agg #[.int .i64 0, .int .i64 0], .bool false]) ?_ rfl ⟨rfl, HBE.out⟩
          rw [results_cell_tmp rfl]
          go_simp
end Go.Proofs.YtdgbplppabalgaaGreatDoor

namespace Go.Proofs.YtdgbplppabalgaaGreatDoor
open Go.RowKit

set_option maxHeartbeats 400000 in
theorem signF_any (n : Int) (t : ByteArray) (w : World) (hn : (str n.natAbs).size ≤ 1000000) :
    Calls Tryz.prog 48 #[ratV (zS n) t] w fun e w' => e = .returned (.int .i64 (sgnI n)) ∧ Below w.heap.size w w' := by
  have HSG := Lib.hid (fun wx => sign_any n wx hn)
  obtain ⟨s, hs⟩ : ∃ s, s = zS n := ⟨_, rfl⟩
  rw [← hs] at HSG ⊢
  have HX := BxR.new w s t
  have x0 := HX.num
  have HB := Lib.hid ((Below.refl w.heap.size w).alloc (Nat.le_refl _) (ratO s t))
  clear hs HX hn
  go_enter Tryz.func48, Tryz.ntmps48
  go_wp2_with fail
  refine (HSG.out _).mono ?_
  rintro e w1 ⟨rfl, rfl⟩
  go_wp2_with fail
  go_ret
  exact ⟨rfl, HB.out⟩
set_option maxHeartbeats 800000 in
theorem floorF_any (n d : Int) (w : World) (hs : Std w) (hn : (str n.natAbs).size ≤ 400000) (hd : (str d.natAbs).size ≤ 400000) (h0 : d ≠ 0) :
    Calls Tryz.prog 54 #[ratV (zS n) (zS d)] w fun e w' => e = .returned (.string (zS (n.fdiv d))) ∧ Below w.heap.size w w' := by
  have HD := Lib.hid (fun wx hw => divW_any n d wx hw hn hd h0)
  obtain ⟨s, hs2⟩ : ∃ s, s = zS n := ⟨_, rfl⟩
  obtain ⟨t, ht⟩ : ∃ s, s = zS d := ⟨_, rfl⟩
  obtain ⟨q, hq⟩ : ∃ s, s = zS (n.fdiv d) := ⟨_, rfl⟩
  obtain ⟨r, hr⟩ : ∃ s, s = zS (n.fmod d) := ⟨_, rfl⟩
  rw [← hs2, ← ht, ← hq, ← hr] at HD
  rw [← hs2, ← ht, ← hq]
  have HX := BxR.new w s t
  have x0 := HX.num
  have x1 := HX.den
  have HB := Lib.hid ((Below.refl w.heap.size w).alloc (Nat.le_refl _) (ratO s t))
  have HS := Lib.hid (hs.below HB.out)
  clear hs2 ht hq hr HX hn hd h0 hs
  go_enter Tryz.func54, Tryz.ntmps54
  go_wp2_with fail
  refine (HD.out _ HS.out).mono ?_
  rintro e w1 ⟨rfl, h1⟩
  have B1 := Lib.hid (HB.out.trans (h1.mono HB.out.size))
  clear h1
  go_wp2_with fail
  go_ret
  exact ⟨rfl, B1.out⟩
end Go.Proofs.YtdgbplppabalgaaGreatDoor

namespace Go.Proofs.YtdgbplppabalgaaGreatDoor
open Go.RowKit


def lcmZ (x y : Int) : Nat := x.natAbs / Nat.gcd x.natAbs y.natAbs * y.natAbs
end Go.Proofs.YtdgbplppabalgaaGreatDoor

namespace Go.Proofs.YtdgbplppabalgaaGreatDoor
open Go.RowKit

theorem nat_fdiv (A B : Nat) : (A : Int).fdiv (B : Int) = ((A / B : Nat) : Int) := by
  rw [Int.fdiv_eq_ediv_of_nonneg _ (by omega)]; exact (Int.natCast_ediv A B).symm
theorem nat_fmod (A B : Nat) : (A : Int).fmod (B : Int) = ((A % B : Nat) : Int) := by
  rw [Int.fmod_eq_emod_of_nonneg _ (by omega)]; exact (Int.natCast_emod A B).symm
theorem nat_tdiv (A B : Nat) : (A : Int).tdiv (B : Int) = ((A / B : Nat) : Int) := by
  rw [Int.tdiv_eq_ediv_of_nonneg (by omega)]; exact (Int.natCast_ediv A B).symm
theorem nat_tmod (A B : Nat) : (A : Int).tmod (B : Int) = ((A % B : Nat) : Int) := by
  rw [Int.tmod_eq_emod_of_nonneg (by omega)]; exact (Int.natCast_emod A B).symm
/-- the next number's size -/
theorem BzI.qx {m n : Int} {A B : Nat} {f x : Int} (h : BzI m n A B f x) (hB : 0 < B) : (A / B) * x.natAbs ≤ m.natAbs ∧ (f - ((A / B : Nat) : Int) * x).natAbs ≤ m.natAbs := by
  have h1 := abs_sub_mul (A / B) h.sign
  have h2 := (h.step hB).ab
  omega


theorem sz_le {a b k : Nat} (h : a ≤ b) (hb : (str b).size ≤ k) : (str a).size ≤ k := zsz_le hb h

end Go.Proofs.YtdgbplppabalgaaGreatDoor

namespace Go.Proofs.YtdgbplppabalgaaGreatDoor
open Go.RowKit

theorem gcd_fmod (a b : Int) : Nat.gcd b.natAbs (a.fmod (b.natAbs : Int)).natAbs = Nat.gcd a.natAbs b.natAbs := by
  have h := Int.fmod_def a (b.natAbs : Int)
  apply Nat.dvd_antisymm
  · apply Nat.dvd_gcd
    · have h1 : ((Nat.gcd b.natAbs (a.fmod (b.natAbs : Int)).natAbs : Nat) : Int) ∣ (b.natAbs : Int) := Int.natCast_dvd_natCast.2 (Nat.gcd_dvd_left _ _)
      have h2 : ((Nat.gcd b.natAbs (a.fmod (b.natAbs : Int)).natAbs : Nat) : Int) ∣ a.fmod (b.natAbs : Int) := Int.ofNat_dvd_left.2 (Nat.gcd_dvd_right _ _)
      have h3 := Int.dvd_add h2 (Int.dvd_mul_of_dvd_left (c := a.fdiv (b.natAbs : Int)) h1)
      rw [show a.fmod (b.natAbs : Int) + (b.natAbs : Int) * a.fdiv (b.natAbs : Int) = a by omega] at h3
      exact Int.ofNat_dvd_left.1 h3
    · exact Nat.gcd_dvd_left _ _
  · apply Nat.dvd_gcd
    · exact Nat.gcd_dvd_right _ _
    · have h1 : ((Nat.gcd a.natAbs b.natAbs : Nat) : Int) ∣ (b.natAbs : Int) := Int.natCast_dvd_natCast.2 (Nat.gcd_dvd_right _ _)
      have h2 : ((Nat.gcd a.natAbs b.natAbs : Nat) : Int) ∣ a := Int.ofNat_dvd_left.2 (Nat.gcd_dvd_left _ _)
      have h3 := Int.dvd_sub h2 (Int.dvd_mul_of_dvd_left (c := a.fdiv (b.natAbs : Int)) h1)
      rw [← h] at h3
      exact Int.ofNat_dvd_left.1 h3
theorem isX_of {a b x : Int} (h : IsX (b.natAbs : Int) (a.fmod (b.natAbs : Int)) x) : IsX b a x := by
  obtain ⟨h1, h2, h3⟩ := h
  rw [Int.natAbs_natCast, gcd_fmod, Nat.gcd_comm] at h2 h3
  refine ⟨h1, h2, ?_⟩
  have hm : b ∣ (b.natAbs : Int) := Int.dvd_natAbs.2 (Int.dvd_refl b)
  have hf := Int.fmod_def a (b.natAbs : Int)
  have h4 := Int.dvd_trans hm h3
  have h5 : b ∣ x * ((b.natAbs : Int) * a.fdiv (b.natAbs : Int)) := Int.dvd_mul_of_dvd_right (Int.dvd_mul_of_dvd_left hm)
  have h6 := Int.dvd_add h4 h5
  rw [show x * a.fmod (b.natAbs : Int) - ((Nat.gcd b.natAbs a.natAbs : Nat) : Int) + x * ((b.natAbs : Int) * a.fdiv (b.natAbs : Int)) = x * a - ((Nat.gcd b.natAbs a.natAbs : Nat) : Int) by
    rw [hf, Int.mul_sub]; omega] at h6
  exact h6
theorem bz_sum {a b x : Int} (hb : b ≠ 0) (h : IsX b a x) : IsBz a b x ((((Nat.gcd a.natAbs b.natAbs : Nat) : Int) - a * x).fdiv b) := by
  refine ⟨fun q => absurd q hb, fun _ => h, ?_⟩
  obtain ⟨h1, h2, h3⟩ := h
  rw [Nat.gcd_comm] at h3
  obtain ⟨L, hL⟩ : ∃ L, L = ((Nat.gcd a.natAbs b.natAbs : Nat) : Int) - a * x := ⟨_, rfl⟩
  rw [← hL]
  have hd : b ∣ L := by
    have := Int.dvd_neg.2 h3
    rw [show -(x * a - ((Nat.gcd a.natAbs b.natAbs : Nat) : Int)) = L by rw [hL, Int.mul_comm x a]; omega] at this
    exact this
  obtain ⟨r1, r2⟩ := fl_range L hb
  have hf : b ∣ L.fmod b := by
    have := Int.dvd_sub hd (Int.dvd_mul_right b (L.fdiv b))
    rw [← Int.fmod_def] at this; exact this
  have h0 : L.fmod b = 0 := Int.eq_zero_of_dvd_of_natAbs_lt_natAbs hf (by omega)
  omega
theorem isX_lt {a b x : Int} (h : IsX b a x) : x.natAbs ≤ b.natAbs := by
  obtain ⟨h1, h2, -⟩ := h
  have := Nat.div_le_self b.natAbs (Nat.gcd b.natAbs a.natAbs)
  omega
theorem gcd_le_add (a b : Nat) : Nat.gcd a b ≤ a + b := by
  rcases Nat.eq_zero_or_pos a with h | h
  · subst h; rw [Nat.gcd_zero_left]; omega
  · have := Nat.gcd_le_left b h; omega
theorem sgn_mul (a : Int) : a * sgnI a = (a.natAbs : Int) := by
  rcases sgnI_ways a with ⟨h, e⟩ | ⟨h, e⟩ | ⟨h, e⟩ <;> rw [e] <;> omega


end Go.Proofs.YtdgbplppabalgaaGreatDoor
