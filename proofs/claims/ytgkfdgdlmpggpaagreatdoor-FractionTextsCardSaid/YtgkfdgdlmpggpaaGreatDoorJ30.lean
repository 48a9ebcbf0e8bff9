/-
  Texts of one seat, joined: YText YChk YKnown.
-/
import Derived.Test.YtgkfdgdlmpggpaaGreatDoorJ17
import Derived.Test.YtgkfdgdlmpggpaaGreatDoorShelf2
import Derived.Lib.UnsafeStr
import Derived.Test.YtgkfdgdlmpggpaaGreatDoorJ23
import Derived.Test.YtgkfdgdlmpggpaaGreatDoorJ22
import Derived.Test.YtgkfdgdlmpggpaaGreatDoorJ15
import Derived.Test.YtgkfdgdlmpggpaaGreatDoorJ5
import Derived.Test.YtgkfdgdlmpggpaaGreatDoorJ21
import Derived.Test.YtgkfdgdlmpggpaaGreatDoorJ24
import Derived.Test.YtgkfdgdlmpggpaaGreatDoorJ29
namespace Go.Proofs.YtgkfdgdlmpggpaaGreatDoor
open Go.RowKit

/-- the text of a fraction -/
def rtxt (s t : ByteArray) : ByteArray := if t = ⟨#[49]⟩ then s else s ++ ⟨#[47]⟩ ++ t
theorem rtxt_one {s t : ByteArray} (h : t = ⟨#[49]⟩) : rtxt s t = s := if_pos h
theorem rtxt_far {s t : ByteArray} (h : ¬ t = ⟨#[49]⟩) : rtxt s t = s ++ ⟨#[47]⟩ ++ t := if_neg h
/-- the box of a fraction and a builder behind it -/
structure Bt (w W : World) (s t : ByteArray) (l : List UInt8) : Prop where
  below : Below w.heap.size w W
  box : BxR W w.heap.size s t
  bld : Lib.IsBuilder 100 5 (w.heap.size + 1) (w.heap.size + 1) (Lib.byteCells l) W
  lt : w.heap.size + 1 ≤ W.heap.size
theorem BxR.belowB {W W' : World} {B g : Nat} {n d : ByteArray} (h : BxR W g n d) (hg : g < B) (hb : Below B W W') : BxR W' g n d :=
  ⟨Nat.lt_of_lt_of_le h.lt hb.size, by rw [hb.cell (p := ⟨g, 0, none⟩) hg]; exact h.num, by rw [hb.cell (p := ⟨g, 1, none⟩) hg]; exact h.den⟩
theorem Bt.to {w W W' : World} {s t : ByteArray} {l l' : List UInt8} (h : Bt w W s t l) (hb : Below (w.heap.size + 1) W W') (hk : Lib.BuilderAt 100 5 (w.heap.size + 1) (w.heap.size + 1) (.pointer (some ⟨w.heap.size + 1, 0, none⟩)) (Lib.byteCells l') W') : Bt w W' s t l' :=
  ⟨h.below.trans (hb.mono (by omega)), h.box.belowB (by omega) hb, .inr hk, Nat.le_trans h.lt hb.size⟩
theorem Bt.new (w : World) (s t : ByteArray) : Bt w ((w.alloc (ratO s t)).alloc (.cells #[.pointer none, .slice none 0 0] 100)) s t [] := by
  have h := Lib.fresh_isBuilder 100 5 (w.alloc (ratO s t))
  rw [push_size] at h
  exact ⟨((Below.refl _ w).alloc (Nat.le_refl _) _).alloc (by rw [push_size]; omega) _, (BxR.new w s t).below ((Below.refl _ _).alloc (Nat.le_refl _) _), h, by rw [push_size, push_size]; omega⟩
theorem Bt.str {w W : World} {s t : ByteArray} {l : List UInt8} (h : Bt w W s t l) (x : ByteArray) (hl : l.length + x.size ≤ 140737488355328) :
    Calls Tryz.prog 82 #[.pointer (some ⟨w.heap.size + 1, 0, none⟩), .string x] W fun e w' => e = .returned (.tuple #[.int .i64 x.size, .nilIface]) ∧ Bt w w' s t (l ++ x.data.toList) :=
  (Tryz.Builder_WriteString (w.heap.size + 1) (w.heap.size + 1) (Lib.byteCells l) x W h.bld (by rw [Lib.byteCells_length]; exact hl) h.lt).mono fun _ _ k => ⟨k.1, h.to k.2.2 (by rw [Lib.byteCells_append, ← Lib.strCells_eq]; exact k.2.1)⟩
theorem Bt.byte {w W : World} {s t : ByteArray} {l : List UInt8} (h : Bt w W s t l) (hl : l.length + 1 ≤ 140737488355328) :
    Calls Tryz.prog 83 #[.pointer (some ⟨w.heap.size + 1, 0, none⟩), .int .u8 47] W fun e w' => e = .returned .nilIface ∧ Bt w w' s t (l ++ [47]) :=
  (Tryz.Builder_WriteByte (w.heap.size + 1) (w.heap.size + 1) (Lib.byteCells l) 47 W h.bld (by rw [Lib.byteCells_length]; exact hl) h.lt).mono fun _ _ k => ⟨k.1, h.to k.2.2 (by rw [Lib.byteCells_append]; exact k.2.1)⟩
theorem Bt.done {w W : World} {s t : ByteArray} {l : List UInt8} (h : Bt w W s t l) :
    Calls Tryz.prog 84 #[.pointer (some ⟨w.heap.size + 1, 0, none⟩)] W fun e w' => e = .returned (.string ⟨l.toArray⟩) ∧ Below w.heap.size w w' :=
  (Tryz.Builder_String_any (w.heap.size + 1) (w.heap.size + 1) l W h.bld h.lt).mono fun _ _ k => ⟨k.1, h.below.trans (k.2.mono (by omega))⟩
theorem toL_of (s : ByteArray) : (⟨([] ++ s.data.toList).toArray⟩ : ByteArray) = s := by simp
theorem toL_three (s t : ByteArray) : (⟨([] ++ s.data.toList ++ [47] ++ t.data.toList).toArray⟩ : ByteArray) = s ++ ⟨#[47]⟩ ++ t := by
  apply ByteArray.ext
  simp [ByteArray.data_append]
set_option maxHeartbeats 1600000 in
set_option maxRecDepth 100000 in
theorem textF_any (s t : ByteArray) (w : World) (hs : s.size ≤ 1000001) (ht : t.size ≤ 1000001) :
    Calls Tryz.prog 28 #[ratV s t] w fun e w' => e = .returned (.string (rtxt s t)) ∧ Below w.heap.size w w' := by
  have HZ := Lib.hid (Bt.new w s t)
  have L1 : s.data.toList.length = s.size := by rw [Array.length_toList]; rfl
  have HW1 := Lib.hid (fun (wx : World) (hz : Bt w wx s t []) => hz.str s (by show 0 + s.size ≤ _; omega))
  have HW2 := Lib.hid (fun (wx : World) (hz : Bt w wx s t ([] ++ s.data.toList)) => hz.byte (by rw [List.nil_append, L1]; omega))
  have HW3 := Lib.hid (fun (wx : World) (hz : Bt w wx s t ([] ++ s.data.toList ++ [47])) => hz.str t (by rw [List.nil_append, List.length_append, L1]; show s.size + 1 + t.size ≤ _; omega))
  have HD1 := Lib.hid (fun (wx : World) (hz : Bt w wx s t ([] ++ s.data.toList)) => hz.done)
  have HD3 := Lib.hid (fun (wx : World) (hz : Bt w wx s t ([] ++ s.data.toList ++ [47] ++ t.data.toList)) => hz.done)
  rw [toL_of] at HD1
  rw [toL_three] at HD3
  obtain ⟨l1, hl1⟩ : ∃ l, l = ([] ++ s.data.toList : List UInt8) := ⟨_, rfl⟩
  rw [← hl1] at HW1 HW2 HW3 HD1 HD3
  obtain ⟨l2, hl2⟩ : ∃ l, l = l1 ++ [47] := ⟨_, rfl⟩
  rw [← hl2] at HW2 HW3 HD3
  obtain ⟨l3, hl3⟩ : ∃ l, l = l2 ++ t.data.toList := ⟨_, rfl⟩
  rw [← hl3] at HW3 HD3
  obtain ⟨r, hr⟩ : ∃ r, r = s ++ ⟨#[47]⟩ ++ t := ⟨_, rfl⟩
  rw [← hr] at HD3
  obtain ⟨n1, hn1⟩ : ∃ n : Int, n = ((s.size : Nat) : Int) := ⟨_, rfl⟩
  obtain ⟨n2, hn2⟩ : ∃ n : Int, n = ((t.size : Nat) : Int) := ⟨_, rfl⟩
  rw [← hn1] at HW1
  rw [← hn2] at HW3
  by_cases h : t = ⟨#[49]⟩
  · subst h
    rw [rtxt_one rfl]
    clear L1 hs ht hl1 hl2 hl3 hr hn1 hn2 HD3 HW2 HW3
    go_enter Tryz.func28, Tryz.ntmps28
    go_upto_region 2 with fail
    obtain ⟨W0, hW0⟩ : ∃ W0, W0 = (w.alloc (ratO s ⟨#[49]⟩)).alloc (.cells #[.pointer none, .slice none 0 0] 100) := ⟨_, rfl⟩
    rw [← hW0] at HZ ⊢
    clear hW0
    have c1 := HZ.out.box.num
    go_wp2_with fail
    refine (HW1.out _ HZ.out).mono ?_
    rintro e w1 ⟨rfl, Z1⟩
    have c2 := Z1.box.den
    have HZ1 := Lib.hid Z1
    clear Z1 c1
    go_wp2_with fail
    refine (HD1.out _ HZ1.out).mono ?_
    rintro e w2 ⟨rfl, h2⟩
    have HB := Lib.hid h2
    clear h2
    go_wp2_with fail
    go_ret
    exact ⟨rfl, HB.out⟩
  · rw [rtxt_far h, ← hr]
    have hb : (t.toList == [49]) = false := by
      rw [Bool.eq_false_iff]; intro k; exact h (by apply ByteArray.ext; apply Array.toList_inj.1; have := eq_of_beq k; rwa [Lib.toList_data] at this)
    have hb2 : (t.toList != [49]) = true := by unfold bne; rw [hb]; rfl
    clear L1 hs ht hl1 hl2 hl3 hr hn1 hn2 HD1
    go_enter Tryz.func28, Tryz.ntmps28
    go_upto_region 2 with fail
    obtain ⟨W0, hW0⟩ : ∃ W0, W0 = (w.alloc (ratO s t)).alloc (.cells #[.pointer none, .slice none 0 0] 100) := ⟨_, rfl⟩
    rw [← hW0] at HZ ⊢
    clear hW0
    have c1 := HZ.out.box.num
    go_wp2_with fail
    refine (HW1.out _ HZ.out).mono ?_
    rintro e w1 ⟨rfl, Z1⟩
    have c2 := Z1.box.den
    have HZ1 := Lib.hid Z1
    clear Z1 c1
    go_wp2_with fail
    refine (HW2.out _ HZ1.out).mono ?_
    rintro e w2 ⟨rfl, Z2⟩
    have c3 := Z2.box.den
    have HZ2 := Lib.hid Z2
    clear Z2 c2
    go_wp2_with fail
    refine (HW3.out _ HZ2.out).mono ?_
    rintro e w3 ⟨rfl, Z3⟩
    have HZ3 := Lib.hid Z3
    clear Z3 c3
    go_wp2_with fail
    refine (HD3.out _ HZ3.out).mono ?_
    rintro e w4 ⟨rfl, h2⟩
    have HB := Lib.hid h2
    clear h2
    go_wp2_with fail
    go_ret
    exact ⟨rfl, HB.out⟩
end Go.Proofs.YtgkfdgdlmpggpaaGreatDoor

namespace Go.Proofs.YtgkfdgdlmpggpaaGreatDoor
open Go.RowKit

theorem ba_eq {s t : ByteArray} (h : s.toList = t.toList) : s = t := by
  rw [Lib.toList_data, Lib.toList_data] at h
  exact ByteArray.ext (Array.toList_inj.1 h)
theorem ba_ne {s : ByteArray} {l : List UInt8} (h : ¬ s = ⟨l.toArray⟩) : (s.toList == l) = false := by
  rw [Bool.eq_false_iff]; intro k; have e := eq_of_beq k
  exact h (ba_eq (by rw [e, Lib.toList_data]))
theorem ba_yes {s : ByteArray} {l : List UInt8} (h : s = ⟨l.toArray⟩) : (s.toList == l) = true := by rw [h, Lib.toList_data]; simp
theorem rgY_yes {s : ByteArray} (h : rgY s = true) : ∃ z : Int, s = zS z ∧ (str z.natAbs).size ≤ 400 := by
  unfold rgY at h
  rw [Bool.and_eq_true] at h
  obtain ⟨z, rfl⟩ := zCan_yes h.1
  exact ⟨z, rfl, by have := of_decide_eq_true h.2; rw [magB_zS] at this; exact this⟩
theorem chk_rg (s : ByteArray) : chkZ s = if rgY s = true then 0 else 2 := by
  unfold chkZ rgY
  by_cases h : zCan s = true ∧ (magB s).size ≤ 400
  · rw [if_pos h, if_pos (by rw [h.1, decide_eq_true h.2]; rfl)]
  · rw [if_neg h, if_neg (by intro k; rw [Bool.and_eq_true] at k; exact h ⟨k.1, of_decide_eq_true k.2⟩)]
/-- a right fraction, as the document says it -/
def riB (s t : ByteArray) : Bool := rgY s && rgY t && decide (0 < zV t) && decide (Nat.gcd (zV s).natAbs (zV t).natAbs = 1)
def chR (b : Bool) : Int := if b = true then 0 else 2
theorem strOne : str 1 = ⟨#[49]⟩ := (str_eq 1 (by decide) (by decide)).symm
theorem str_one_iff {n : Nat} (h : ¬ n = 1) : ¬ str n = ⟨#[49]⟩ := fun k => h (str_inj (by rw [strOne]; exact k))
set_option maxHeartbeats 1600000 in
set_option maxRecDepth 100000 in
theorem checkF_any (s t : ByteArray) (w : World) (hw : Std w) (hs : s.size ≤ 1000001) (ht : t.size ≤ 1000001) :
    Calls Tryz.prog 16 #[ratV s t] w fun e w' => e = .returned (.int .i64 (chR (riB s t))) ∧ Below w.heap.size w w' := by
  have HZ := Lib.hid (BxR.new w s t)
  have HB := Lib.hid ((Below.refl w.heap.size w).alloc (Nat.le_refl _) (ratO s t))
  have HC1 := Lib.hid (fun wx => checkW_any s wx hs)
  have HC2 := Lib.hid (fun wx => checkW_any t wx ht)
  rw [chk_rg] at HC1 HC2
  cases h1 : rgY s with
  | false =>
    rw [h1] at HC1
    have hV := Lib.hid (show chR (riB s t) = 2 by unfold riB; rw [h1]; rfl)
    rw [if_neg (by decide)] at HC1
    obtain ⟨V, hVV⟩ : ∃ V, V = chR (riB s t) := ⟨_, rfl⟩
    rw [← hVV] at hV ⊢
    clear h1 hVV HC2
    go_enter Tryz.func16, Tryz.ntmps16
    go_upto_region 1 with fail
    obtain ⟨W0, hW0⟩ : ∃ W0, W0 = w.alloc (ratO s t) := ⟨_, rfl⟩
    rw [← hW0] at HZ HB ⊢
    clear hW0
    have c1 := HZ.out.num
    go_wp2_with fail
    refine (HC1.out _).mono ?_
    rintro e w1 ⟨rfl, b1⟩
    have B1 := Lib.hid (HB.out.trans (b1.mono HB.out.size))
    clear b1
    go_wp2_with fail
    go_ret
    exact ⟨by rw [hV.out]; rfl, B1.out⟩
  | true =>
    rw [h1] at HC1
    rw [if_pos rfl] at HC1
    cases h2 : rgY t with
    | false =>
      rw [h2] at HC2
      rw [if_neg (by decide)] at HC2
      have hV := Lib.hid (show chR (riB s t) = 2 by unfold riB; rw [h1, h2]; rfl)
      obtain ⟨V, hVV⟩ : ∃ V, V = chR (riB s t) := ⟨_, rfl⟩
      rw [← hVV] at hV ⊢
      clear h1 h2 hVV
      go_enter Tryz.func16, Tryz.ntmps16
      go_upto_region 1 with fail
      obtain ⟨W0, hW0⟩ : ∃ W0, W0 = w.alloc (ratO s t) := ⟨_, rfl⟩
      rw [← hW0] at HZ HB ⊢
      clear hW0
      have c1 := HZ.out.num
      go_wp2_with fail
      refine (HC1.out _).mono ?_
      rintro e w1 ⟨rfl, b1⟩
      have B1 := Lib.hid (HB.out.trans (b1.mono HB.out.size))
      have Z1 := Lib.hid (HZ.out.below b1)
      have c2 := Z1.out.den
      clear b1 c1
      go_wp2_with fail
      refine (HC2.out _).mono ?_
      rintro e w2 ⟨rfl, b2⟩
      have B2 := Lib.hid (B1.out.trans (b2.mono B1.out.size))
      clear b2
      go_wp2_with fail
      go_ret
      exact ⟨by rw [hV.out]; rfl, B2.out⟩
    | true =>
      rw [h2] at HC2
      rw [if_pos rfl] at HC2
      obtain ⟨n, rfl, hn⟩ := rgY_yes h1
      obtain ⟨d, rfl, hd⟩ := rgY_yes h2
      have HSG := Lib.hid (fun wx => sign_any d wx (by omega))
      have HG := Lib.hid (fun wx (hw : Std wx) => gcdW_any n d wx hw (by omega) (by omega))
      by_cases hp : 0 < d
      · rw [sgnI_pos hp] at HSG
        by_cases hg : Nat.gcd n.natAbs d.natAbs = 1
        · have hV := Lib.hid (show chR (riB (zS n) (zS d)) = 0 by unfold riB; rw [h1, h2, zV_zS, zV_zS, decide_eq_true hp, decide_eq_true hg]; rfl)
          rw [hg, strOne] at HG
          obtain ⟨V, hVV⟩ : ∃ V, V = chR (riB (zS n) (zS d)) := ⟨_, rfl⟩
          rw [← hVV] at hV ⊢
          obtain ⟨s, hs1⟩ : ∃ s, s = zS n := ⟨_, rfl⟩
          obtain ⟨t, ht1⟩ : ∃ s, s = zS d := ⟨_, rfl⟩
          have HS := Lib.hid hw
          rw [← hs1, ← ht1] at HZ HB HG ⊢
          rw [← hs1] at HC1
          rw [← ht1] at HC2 HSG
          clear h1 h2 hVV hs ht hn hd hp hg hs1 ht1 hw
          go_enter Tryz.func16, Tryz.ntmps16
          go_upto_region 1 with fail
          obtain ⟨W0, hW0⟩ : ∃ W0, W0 = w.alloc (ratO s t) := ⟨_, rfl⟩
          rw [← hW0] at HZ HB ⊢
          clear hW0
          have c1 := HZ.out.num
          go_wp2_with fail
          refine (HC1.out _).mono ?_
          rintro e w1 ⟨rfl, b1⟩
          have B1 := Lib.hid (HB.out.trans (b1.mono HB.out.size))
          have Z1 := Lib.hid (HZ.out.below b1)
          have c2 := Z1.out.den
          clear b1 c1
          go_wp2_with fail
          refine (HC2.out _).mono ?_
          rintro e w2 ⟨rfl, b2⟩
          have B2 := Lib.hid (B1.out.trans (b2.mono B1.out.size))
          have Z2 := Lib.hid (Z1.out.below b2)
          have c3 := Z2.out.den
          have c4 := Z2.out.num
          clear b2 c2
          go_wp2_with fail
          refine (HSG.out _).mono ?_
          rintro e w3 ⟨rfl, b3⟩
          obtain rfl := b3
          go_wp2_with fail
          refine (HG.out _ (HS.out.below B2.out)).mono ?_
          rintro e w4 ⟨rfl, b4⟩
          have B4 := Lib.hid (B2.out.trans (b4.mono B2.out.size))
          clear b4
          go_wp2_with fail
          go_ret
          exact ⟨by rw [hV.out]; rfl, B4.out⟩
        · have hV := Lib.hid (show chR (riB (zS n) (zS d)) = 2 by unfold riB; rw [h1, h2, zV_zS, zV_zS, decide_eq_true hp, decide_eq_false hg]; rfl)
          have hgb := ba_ne (l := [49]) (str_one_iff hg)
          have hgc : ((str (Nat.gcd n.natAbs d.natAbs)).toList != [49]) = true := by unfold bne; rw [hgb]; rfl
          obtain ⟨g, hgg⟩ : ∃ g, g = str (Nat.gcd n.natAbs d.natAbs) := ⟨_, rfl⟩
          rw [← hgg] at HG hgb hgc
          obtain ⟨V, hVV⟩ : ∃ V, V = chR (riB (zS n) (zS d)) := ⟨_, rfl⟩
          rw [← hVV] at hV ⊢
          obtain ⟨s, hs1⟩ : ∃ s, s = zS n := ⟨_, rfl⟩
          obtain ⟨t, ht1⟩ : ∃ s, s = zS d := ⟨_, rfl⟩
          have HS := Lib.hid hw
          rw [← hs1, ← ht1] at HZ HB HG ⊢
          rw [← hs1] at HC1
          rw [← ht1] at HC2 HSG
          clear h1 h2 hVV hs ht hn hd hp hg hs1 ht1 hw hgg
          go_enter Tryz.func16, Tryz.ntmps16
          go_upto_region 1 with fail
          obtain ⟨W0, hW0⟩ : ∃ W0, W0 = w.alloc (ratO s t) := ⟨_, rfl⟩
          rw [← hW0] at HZ HB ⊢
          clear hW0
          have c1 := HZ.out.num
          go_wp2_with fail
          refine (HC1.out _).mono ?_
          rintro e w1 ⟨rfl, b1⟩
          have B1 := Lib.hid (HB.out.trans (b1.mono HB.out.size))
          have Z1 := Lib.hid (HZ.out.below b1)
          have c2 := Z1.out.den
          clear b1 c1
          go_wp2_with fail
          refine (HC2.out _).mono ?_
          rintro e w2 ⟨rfl, b2⟩
          have B2 := Lib.hid (B1.out.trans (b2.mono B1.out.size))
          have Z2 := Lib.hid (Z1.out.below b2)
          have c3 := Z2.out.den
          have c4 := Z2.out.num
          clear b2 c2
          go_wp2_with fail
          refine (HSG.out _).mono ?_
          rintro e w3 ⟨rfl, b3⟩
          obtain rfl := b3
          go_wp2_with fail
          refine (HG.out _ (HS.out.below B2.out)).mono ?_
          rintro e w4 ⟨rfl, b4⟩
          have B4 := Lib.hid (B2.out.trans (b4.mono B2.out.size))
          clear b4
          go_wp2_with fail
          go_ret
          exact ⟨by rw [hV.out]; rfl, B4.out⟩
      · have hV := Lib.hid (show chR (riB (zS n) (zS d)) = 2 by unfold riB; rw [h1, h2, zV_zS, zV_zS, decide_eq_false hp]; rfl)
        have hsw := sgnI_ways d
        obtain ⟨k, hk⟩ : ∃ k, k = sgnI d := ⟨_, rfl⟩
        rw [← hk] at HSG hsw
        have hkl : decide (k ≤ 0) = true := decide_eq_true (by omega)
        have hkl2 : k ≤ 0 := by omega
        obtain ⟨V, hVV⟩ : ∃ V, V = chR (riB (zS n) (zS d)) := ⟨_, rfl⟩
        rw [← hVV] at hV ⊢
        obtain ⟨s, hs1⟩ : ∃ s, s = zS n := ⟨_, rfl⟩
        obtain ⟨t, ht1⟩ : ∃ s, s = zS d := ⟨_, rfl⟩
        rw [← hs1, ← ht1] at HZ HB ⊢
        rw [← hs1] at HC1
        rw [← ht1] at HC2 HSG
        clear h1 h2 hVV hs ht hn hd hp hs1 ht1 hw HG hsw hk
        go_enter Tryz.func16, Tryz.ntmps16
        go_upto_region 1 with fail
        obtain ⟨W0, hW0⟩ : ∃ W0, W0 = w.alloc (ratO s t) := ⟨_, rfl⟩
        rw [← hW0] at HZ HB ⊢
        clear hW0
        have c1 := HZ.out.num
        go_wp2_with fail
        refine (HC1.out _).mono ?_
        rintro e w1 ⟨rfl, b1⟩
        have B1 := Lib.hid (HB.out.trans (b1.mono HB.out.size))
        have Z1 := Lib.hid (HZ.out.below b1)
        have c2 := Z1.out.den
        clear b1 c1
        go_wp2_with fail
        refine (HC2.out _).mono ?_
        rintro e w2 ⟨rfl, b2⟩
        have B2 := Lib.hid (B1.out.trans (b2.mono B1.out.size))
        have Z2 := Lib.hid (Z1.out.below b2)
        have c3 := Z2.out.den
        clear b2 c2
        go_wp2_with fail
        refine (HSG.out _).mono ?_
        rintro e w3 ⟨rfl, b3⟩
        obtain rfl := b3
        go_wp2_with fail
        go_ret
        exact ⟨by rw [hV.out]; rfl, B2.out⟩
end Go.Proofs.YtgkfdgdlmpggpaaGreatDoor

namespace Go.Proofs.YtgkfdgdlmpggpaaGreatDoor
open Go.RowKit

theorem str_2 : str 2 = ⟨#[50]⟩ := (str_eq 2 (by decide) (by decide)).symm
theorem str_3 : str 3 = ⟨#[51]⟩ := (str_eq 3 (by decide) (by decide)).symm
theorem str_5 : str 5 = ⟨#[53]⟩ := (str_eq 5 (by decide) (by decide)).symm
theorem zS_3 : zS 3 = ⟨#[51]⟩ := by rw [zS_pos (by decide)]; exact str_3
theorem zS_m3 : zS (-3) = ⟨#[45, 51]⟩ := by
  rw [zS_neg (by decide), show (-3 : Int).natAbs = 3 from rfl, str_3]; rfl
theorem zS_1 : zS 1 = ⟨#[49]⟩ := by rw [zS_pos (by decide)]; exact strOne
theorem zS_2 : zS 2 = ⟨#[50]⟩ := by rw [zS_pos (by decide)]; exact str_2
theorem zS_5 : zS 5 = ⟨#[53]⟩ := by rw [zS_pos (by decide)]; exact str_5
theorem kn_s : newS 6 (-4) = ⟨#[45, 51]⟩ := by
  unfold newS newN lowN
  rw [if_neg (by decide), if_pos (by decide)]
  exact (congrArg zS (by decide : _ = (-3 : Int))).trans zS_m3
theorem kn_t : newT 6 (-4) = ⟨#[50]⟩ := by
  unfold newT newD lowD
  rw [if_neg (by decide), if_pos (by decide)]
  exact (congrArg str (by decide : _ = 2)).trans str_2
theorem kn_p : parO ⟨#[50, 46, 53, 48]⟩ = (⟨#[53]⟩, ⟨#[50]⟩, 0) := by
  rw [parO_dec (b := [50]) (r := [53, 48]) (by decide) rfl (by decide) (by decide)]
  have e1 : sgN (negB ⟨([50] : List UInt8).toArray⟩) (val ((magB ⟨([50] : List UInt8).toArray⟩).data.toList ++ [53, 48])) = 250 := by decide
  have e2 : ((10 ^ ([53, 48] : List UInt8).length : Nat) : Int) = 100 := by decide
  rw [e1, e2]
  have e3 : newS 250 100 = ⟨#[53]⟩ := by
    unfold newS newN lowN
    rw [if_neg (by decide), if_neg (by decide)]
    exact (congrArg zS (by decide : _ = (5 : Int))).trans zS_5
  have e4 : newT 250 100 = ⟨#[50]⟩ := by
    unfold newT newD lowD
    rw [if_neg (by decide), if_neg (by decide)]
    exact (congrArg str (by decide : _ = 2)).trans str_2
  rw [e3, e4]; rfl
theorem kn_a : zS (lowN (-3 * 2 + 5 * 2) (2 * 2 : Int).natAbs) = ⟨#[49]⟩ := (congrArg zS (by unfold lowN; decide : _ = (1 : Int))).trans zS_1
theorem kn_b : str (lowD (-3 * 2 + 5 * 2) (2 * 2 : Int).natAbs) = ⟨#[49]⟩ := (congrArg str (by unfold lowD; decide : _ = 1)).trans strOne
theorem kn_n : zS ((5 + 5 + 2 : Int).fdiv (2 + 2)) = ⟨#[51]⟩ := (congrArg zS (by decide : _ = (3 : Int))).trans zS_3
theorem one_sz (n : Nat) (h : n < 10) : (str n).size ≤ 10000 := Nat.le_trans (str_big (n := 1) h (by decide)) (by decide)
set_option maxHeartbeats 1600000 in
set_option maxRecDepth 100000 in
theorem knownF_any (w : World) (hs : Stf w) :
    Calls Tryz.prog 13 #[] w fun e w' => e = .returned (.bool true) ∧ Below w.heap.size w w' := by
  have HO := Lib.hid (fun wx (hw : Std wx) => ofF_any 6 (-4) wx hw (by decide) (by decide) (by decide) (by decide))
  have e0 : newE (-4) = 0 := by decide
  rw [kn_s, kn_t, e0] at HO
  have HP := Lib.hid (fun wx (hw : Stf wx) => paF_any ⟨#[50, 46, 53, 48]⟩ wx hw)
  rw [kn_p] at HP
  have HN := Lib.hid (fun wx (hw : Std wx) => nearF_any 5 2 wx hw (by decide) (by decide) (by decide))
  rw [kn_n, zS_5, zS_2] at HN
  have HA := Lib.hid (fun wx (hw : Std wx) => addF_any (-3) 2 5 2 wx hw (one_sz _ (by decide)) (one_sz _ (by decide)) (one_sz _ (by decide)) (one_sz _ (by decide)) (by decide) (by decide))
  rw [kn_a, kn_b, zS_m3, zS_5, zS_2] at HA
  have HT := Lib.hid (fun wx => textF_any ⟨#[45, 51]⟩ ⟨#[50]⟩ wx (by decide) (by decide))
  have e1 : rtxt ⟨#[45, 51]⟩ ⟨#[50]⟩ = ⟨#[45, 51, 47, 50]⟩ := by rw [rtxt_far (by decide)]; rfl
  rw [e1] at HT
  have HS := Lib.hid hs
  clear e0 e1 hs
  go_enter Tryz.func13, Tryz.ntmps13
  go_wp2_with fail
  refine (HO.out _ HS.out.std).mono ?_
  rintro e w1 ⟨rfl, b1⟩
  have B1 := Lib.hid b1
  clear b1
  go_upto_region 2 with fail
  have P1 := Lib.hid (BxR.new w1 ⟨#[45, 51]⟩ ⟨#[50]⟩)
  have B2 := Lib.hid (B1.out.alloc B1.out.size (ratO ⟨#[45, 51]⟩ ⟨#[50]⟩))
  obtain ⟨gp, hgp⟩ : ∃ g, g = w1.heap.size := ⟨_, rfl⟩
  obtain ⟨W2, hW2⟩ : ∃ W2, W2 = w1.alloc (ratO ⟨#[45, 51]⟩ ⟨#[50]⟩) := ⟨_, rfl⟩
  rw [← hgp, ← hW2] at P1
  rw [← hW2] at B2
  rw [← hW2, ← hgp]
  clear hgp hW2 B1
  go_wp2_with fail
  refine (HP.out _ (HS.out.below B2.out)).mono ?_
  rintro e w3 ⟨rfl, b3⟩
  have B3 := Lib.hid (B2.out.trans (b3.mono B2.out.size))
  have P3 := Lib.hid (P1.out.below b3)
  clear b3 B2 P1
  go_upto_region 3 with fail
  have Q4 := Lib.hid (BxR.new w3 ⟨#[53]⟩ ⟨#[50]⟩)
  have B4 := Lib.hid (B3.out.alloc B3.out.size (ratO ⟨#[53]⟩ ⟨#[50]⟩))
  have P4 := Lib.hid (P3.out.below ((Below.refl _ _).alloc (Nat.le_refl _) (ratO ⟨#[53]⟩ ⟨#[50]⟩)))
  obtain ⟨gq, hgq⟩ : ∃ g, g = w3.heap.size := ⟨_, rfl⟩
  obtain ⟨W4, hW4⟩ : ∃ W4, W4 = w3.alloc (ratO ⟨#[53]⟩ ⟨#[50]⟩) := ⟨_, rfl⟩
  rw [← hgq, ← hW4] at Q4
  rw [← hW4] at B4 P4
  rw [← hW4, ← hgq]
  clear hgq hW4 B3 P3
  have c1 := P4.out.num
  have c2 := P4.out.den
  have c3 := Q4.out.num
  have c4 := Q4.out.den
  go_wp2_with fail
  refine (HN.out _ (HS.out.below B4.out).std).mono ?_
  rintro e w5 ⟨rfl, b5⟩
  have B5 := Lib.hid (B4.out.trans (b5.mono B4.out.size))
  have P5 := Lib.hid (P4.out.below b5)
  have Q5 := Lib.hid (Q4.out.below b5)
  clear b5 c1 c2 c3 c4 B4 P4 Q4
  have c1 := P5.out.num
  have c2 := P5.out.den
  have c3 := Q5.out.num
  have c4 := Q5.out.den
  go_wp2_with fail
  refine (HA.out _ (HS.out.below B5.out).std).mono ?_
  rintro e w6 ⟨rfl, b6⟩
  have B6 := Lib.hid (B5.out.trans (b6.mono B5.out.size))
  have P6 := Lib.hid (P5.out.below b6)
  clear b6 c1 c2 c3 c4 B5 P5 Q5
  have c1 := P6.out.num
  have c2 := P6.out.den
  go_wp2_with fail
  refine (HT.out _).mono ?_
  rintro e w7 ⟨rfl, b7⟩
  have B7 := Lib.hid (B6.out.trans (b7.mono B6.out.size))
  clear b7 c1 c2
  go_wp2_with fail
  go_ret
  exact ⟨rfl, B7.out⟩
end Go.Proofs.YtgkfdgdlmpggpaaGreatDoor
