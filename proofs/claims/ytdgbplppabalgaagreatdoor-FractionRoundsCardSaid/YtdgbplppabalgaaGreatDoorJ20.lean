/-
  Texts of one seat, joined: YNear YText YChk YKnown YNeg ZRight ZRAdd ZTimes.
-/
import Derived.Test.YtdgbplppabalgaaGreatDoorJ12
import Derived.Test.YtdgbplppabalgaaGreatDoorJ19
import Derived.Test.YtdgbplppabalgaaGreatDoorJ11
import Derived.Test.YtdgbplppabalgaaGreatDoorJ5
import Derived.Test.YtdgbplppabalgaaGreatDoorShelf3
import Derived.Test.YtdgbplppabalgaaGreatDoorShelf2
import Derived.Lib.UnsafeStr
import Derived.Test.YtdgbplppabalgaaGreatDoorJ16
import Derived.Test.YtdgbplppabalgaaGreatDoorJ15
import Derived.Test.YtdgbplppabalgaaGreatDoorJ10
import Derived.Test.YtdgbplppabalgaaGreatDoorJ3
import Derived.Test.YtdgbplppabalgaaGreatDoorJ14
import Derived.Test.YtdgbplppabalgaaGreatDoorJ17
import Derived.Test.YtdgbplppabalgaaGreatDoorJ4
import Derived.Test.YtdgbplppabalgaaGreatDoorJ13
namespace Go.Proofs.YtdgbplppabalgaaGreatDoor
open Go.RowKit

set_option maxHeartbeats 1600000 in
set_option maxRecDepth 100000 in
theorem nearF_any (n d : Int) (w : World) (hs : Std w) (hn : n.natAbs < 10000000000000000000000000000000000000000000000000000000000000000000000) (hd : d.natAbs < 10000000000000000000000000000000000000000000000000000000000000000000000) (hp : 0 < d) :
    Calls Tryz.prog 56 #[ratV (zS n) (zS d)] w fun e w' => e = .returned (.string (zS ((n + n + d).fdiv (d + d)))) ∧ Below w.heap.size w w' := by
  have z1 : (str d.natAbs).size ≤ 80 := big80 (by omega)
  have z2 : (str (d + d).natAbs).size ≤ 80 := big80 (by omega)
  have z3 : (str (n + n + d).natAbs).size ≤ 80 := big80 (by omega)
  have HA := Lib.hid (fun wx (hw : Std wx) => addW_any d d wx hw (by omega) (by omega))
  have HSM := Lib.hid (fun wx (hw : Std wx) a (ht : Txt wx a [n, n, d]) => sumW_far a 3 [n, n, d] wx hw ht (by show 3 ≤ 100; decide) (by
    intro z hz
    rcases List.mem_cons.1 hz with rfl | hz
    · exact hn
    rcases List.mem_cons.1 hz with rfl | hz
    · exact hn
    rcases List.mem_cons.1 hz with rfl | hz
    · exact hd
    · cases hz))
  have hsum : [n, n, d].sum = n + n + d := by simp only [List.sum_cons, List.sum_nil]; omega
  rw [hsum] at HSM
  have HT := Lib.hid (fun (wx : World) (g : Nat) (hg : g < wx.heap.size) (c0 : wx.cell? ⟨g, 0, none⟩ = some (.string (zS n))) (c1 : wx.cell? ⟨g, 1, none⟩ = some (.string (zS n))) (c2 : wx.cell? ⟨g, 2, none⟩ = some (.string (zS d))) => (show Txt wx (some ⟨g, 0, none⟩) [n, n, d] from .inr ⟨g, 0, rfl, hg, fun i hi => by
    match i, hi with
    | 0, _ => exact c0
    | 1, _ => exact c1
    | 2, _ => exact c2⟩))
  have HD := Lib.hid (fun wx (hw : Std wx) => divW_any (n + n + d) (d + d) wx hw (by omega) (by omega) (by omega))
  obtain ⟨zs, hzs⟩ : ∃ zs, zs = [n, n, d] := ⟨_, rfl⟩
  have hlen : [n, n, d].length = 3 := rfl
  rw [hlen] at HSM
  rw [← hzs] at HSM HT
  obtain ⟨q, hq⟩ : ∃ s, s = zS ((n + n + d).fdiv (d + d)) := ⟨_, rfl⟩
  obtain ⟨r, hr⟩ : ∃ s, s = zS ((n + n + d).fmod (d + d)) := ⟨_, rfl⟩
  obtain ⟨x, hx⟩ : ∃ s, s = zS (n + n + d) := ⟨_, rfl⟩
  obtain ⟨y, hy⟩ : ∃ s, s = zS (d + d) := ⟨_, rfl⟩
  obtain ⟨s, hs1⟩ : ∃ s, s = zS n := ⟨_, rfl⟩
  obtain ⟨t, ht1⟩ : ∃ s, s = zS d := ⟨_, rfl⟩
  rw [← hq, ← hr, ← hx, ← hy] at HD
  rw [← ht1, ← hy] at HA
  rw [← hx] at HSM
  rw [← hs1, ← ht1] at HT ⊢
  rw [← hq]
  have HZ := Lib.hid (BxR.new w s t)
  have HB := Lib.hid ((Below.refl w.heap.size w).alloc (Nat.le_refl _) (ratO s t))
  have HS := Lib.hid hs
  clear hs hn hd hp z1 z2 z3 hsum hzs hlen hq hr hx hy hs1 ht1
  go_enter Tryz.func56, Tryz.ntmps56
  go_upto_region 1 with fail
  obtain ⟨W0, hW0⟩ : ∃ W0, W0 = w.alloc (ratO s t) := ⟨_, rfl⟩
  rw [← hW0] at HZ HB ⊢
  clear hW0
  have c1 := HZ.out.den
  go_wp2_with fail
  refine (HA.out _ (HS.out.below HB.out)).mono ?_
  rintro e w1 ⟨rfl, b1⟩
  have B1 := Lib.hid (HB.out.trans (b1.mono HB.out.size))
  have Z1 := Lib.hid (HZ.out.below b1)
  have c2 := Z1.out.den
  have c3 := Z1.out.num
  clear b1 c1
  have B2 := Lib.hid (B1.out.alloc B1.out.size (.cells #[.string s, .string s, .string t] 9))
  have B2i := Lib.hid (B1.out.alloc B1.out.size (.cells #[.string s, .string s, .string t] 22))
  go_wp2_with fail
  refine (HSM.out _ ?hst _ ?htx).mono ?_
  case hst => exact HS.out.below (by first | exact B2i.out | exact B2.out)
  case htx => exact HT.out _ _ (by rw [push_size]; omega) (by rw [World.cell?_alloc_new]; rfl) (by rw [World.cell?_alloc_new]; rfl) (by rw [World.cell?_alloc_new]; rfl)
  rintro e w2 ⟨rfl, b2⟩
  have B3 := Lib.hid (show Below w.heap.size w w2 from by first | exact B2i.out.trans (b2.mono B2i.out.size) | exact B2.out.trans (b2.mono B2.out.size))
  clear b2 c2 c3
  go_wp2_with fail
  refine (HD.out _ (HS.out.below B3.out)).mono ?_
  rintro e w3 ⟨rfl, b3⟩
  have B4 := Lib.hid (B3.out.trans (b3.mono B3.out.size))
  clear b3
  go_wp2_with fail
  go_ret
  exact ⟨rfl, B4.out⟩
end Go.Proofs.YtdgbplppabalgaaGreatDoor

namespace Go.Proofs.YtdgbplppabalgaaGreatDoor
open Go.RowKit

/-- the text of a fraction -/
def rtxt (s t : ByteArray) : ByteArray := if t = ⟨#[49]⟩ then s else s ++ ⟨#[47]⟩ ++ t
theorem rtxt_one {s t : ByteArray} (h : t = ⟨#[49]⟩) : rtxt s t = s := if_pos h
theorem rtxt_far {s t : ByteArray} (h : ¬ t = ⟨#[49]⟩) : rtxt s t = s ++ ⟨#[47]⟩ ++ t := if_neg h
/-- the box of a fraction and a builder behind it -/
structure Bt (w W : World) (s t : ByteArray) (l : List UInt8) : Prop where
  below : Below w.heap.size w W
  box : BxR W w.heap.size s t
  bld : Lib.IsBuilder 100 5 (w.heap.size + 1) (w.heap.size + 1) (Lib.byteCells l) W
  lt : w.heap.size + 1 ≤ W.heap.size
theorem BxR.belowB {W W' : World} {B g : Nat} {n d : ByteArray} (h : BxR W g n d) (hg : g < B) (hb : Below B W W') : BxR W' g n d :=
  ⟨Nat.lt_of_lt_of_le h.lt hb.size, by rw [hb.cell (p := ⟨g, 0, none⟩) hg]; exact h.num, by rw [hb.cell (p := ⟨g, 1, none⟩) hg]; exact h.den⟩
theorem Bt.to {w W W' : World} {s t : ByteArray} {l l' : List UInt8} (h : Bt w W s t l) (hb : Below (w.heap.size + 1) W W') (hk : Lib.BuilderAt 100 5 (w.heap.size + 1) (w.heap.size + 1) (.pointer (some ⟨w.heap.size + 1, 0, none⟩)) (Lib.byteCells l') W') : Bt w W' s t l' :=
  ⟨h.below.trans (hb.mono (by omega)), h.box.belowB (by omega) hb, .inr hk, Nat.le_trans h.lt hb.size⟩
theorem Bt.new (w : World) (s t : ByteArray) : Bt w ((w.alloc (ratO s t)).alloc (.cells #[.pointer none, .slice none 0 0] 100)) s t [] := by
  have h := Lib.fresh_isBuilder 100 5 (w.alloc (ratO s t))
  rw [push_size] at h
  exact ⟨((Below.refl _ w).alloc (Nat.le_refl _) _).alloc (by rw [push_size]; omega) _, (BxR.new w s t).below ((Below.refl _ _).alloc (Nat.le_refl _) _), h, by rw [push_size, push_size]; omega⟩
theorem Bt.str {w W : World} {s t : ByteArray} {l : List UInt8} (h : Bt w W s t l) (x : ByteArray) (hl : l.length + x.size ≤ 140737488355328) :
    Calls Tryz.prog 82 #[.pointer (some ⟨w.heap.size + 1, 0, none⟩), .string x] W fun e w' => e = .returned (.tuple #[.int .i64 x.size, .nilIface]) ∧ Bt w w' s t (l ++ x.data.toList) :=
  (Tryz.Builder_WriteString (w.heap.size + 1) (w.heap.size + 1) (Lib.byteCells l) x W h.bld (by rw [Lib.byteCells_length]; exact hl) h.lt).mono fun _ _ k => ⟨k.1, h.to k.2.2 (by rw [Lib.byteCells_append, ← Lib.strCells_eq]; exact k.2.1)⟩
theorem Bt.byte {w W : World} {s t : ByteArray} {l : List UInt8} (h : Bt w W s t l) (hl : l.length + 1 ≤ 140737488355328) :
    Calls Tryz.prog 83 #[.pointer (some ⟨w.heap.size + 1, 0, none⟩), .int .u8 47] W fun e w' => e = .returned .nilIface ∧ Bt w w' s t (l ++ [47]) :=
  (Tryz.Builder_WriteByte (w.heap.size + 1) (w.heap.size + 1) (Lib.byteCells l) 47 W h.bld (by rw [Lib.byteCells_length]; exact hl) h.lt).mono fun _ _ k => ⟨k.1, h.to k.2.2 (by rw [Lib.byteCells_append]; exact k.2.1)⟩
theorem Bt.done {w W : World} {s t : ByteArray} {l : List UInt8} (h : Bt w W s t l) :
    Calls Tryz.prog 84 #[.pointer (some ⟨w.heap.size + 1, 0, none⟩)] W fun e w' => e = .returned (.string ⟨l.toArray⟩) ∧ Below w.heap.size w w' :=
  (Tryz.Builder_String_any (w.heap.size + 1) (w.heap.size + 1) l W h.bld h.lt).mono fun _ _ k => ⟨k.1, h.below.trans (k.2.mono (by omega))⟩
theorem toL_of (s : ByteArray) : (⟨([] ++ s.data.toList).toArray⟩ : ByteArray) = s := by simp
theorem toL_three (s t : ByteArray) : (⟨([] ++ s.data.toList ++ [47] ++ t.data.toList).toArray⟩ : ByteArray) = s ++ ⟨#[47]⟩ ++ t := by
  apply ByteArray.ext
  simp [ByteArray.data_append]
set_option maxHeartbeats 1600000 in
set_option maxRecDepth 100000 in
theorem textF_any (s t : ByteArray) (w : World) (hs : s.size ≤ 1000001) (ht : t.size ≤ 1000001) :
    Calls Tryz.prog 28 #[ratV s t] w fun e w' => e = .returned (.string (rtxt s t)) ∧ Below w.heap.size w w' := by
  have HZ := Lib.hid (Bt.new w s t)
  have L1 : s.data.toList.length = s.size := by rw [Array.length_toList]; rfl
  have HW1 := Lib.hid (fun (wx : World) (hz : Bt w wx s t []) => hz.str s (by show 0 + s.size ≤ _; omega))
  have HW2 := Lib.hid (fun (wx : World) (hz : Bt w wx s t ([] ++ s.data.toList)) => hz.byte (by rw [List.nil_append, L1]; omega))
  have HW3 := Lib.hid (fun (wx : World) (hz : Bt w wx s t ([] ++ s.data.toList ++ [47])) => hz.str t (by rw [List.nil_append, List.length_append, L1]; show s.size + 1 + t.size ≤ _; omega))
  have HD1 := Lib.hid (fun (wx : World) (hz : Bt w wx s t ([] ++ s.data.toList)) => hz.done)
  have HD3 := Lib.hid (fun (wx : World) (hz : Bt w wx s t ([] ++ s.data.toList ++ [47] ++ t.data.toList)) => hz.done)
  rw [toL_of] at HD1
  rw [toL_three] at HD3
  obtain ⟨l1, hl1⟩ : ∃ l, l = ([] ++ s.data.toList : List UInt8) := ⟨_, rfl⟩
  rw [← hl1] at HW1 HW2 HW3 HD1 HD3
  obtain ⟨l2, hl2⟩ : ∃ l, l = l1 ++ [47] := ⟨_, rfl⟩
  rw [← hl2] at HW2 HW3 HD3
  obtain ⟨l3, hl3⟩ : ∃ l, l = l2 ++ t.data.toList := ⟨_, rfl⟩
  rw [← hl3] at HW3 HD3
  obtain ⟨r, hr⟩ : ∃ r, r = s ++ ⟨#[47]⟩ ++ t := ⟨_, rfl⟩
  rw [← hr] at HD3
  obtain ⟨n1, hn1⟩ : ∃ n : Int, n = ((s.size : Nat) : Int) := ⟨_, rfl⟩
  obtain ⟨n2, hn2⟩ : ∃ n : Int, n = ((t.size : Nat) : Int) := ⟨_, rfl⟩
  rw [← hn1] at HW1
  rw [← hn2] at HW3
  by_cases h : t = ⟨#[49]⟩
  · subst h
    rw [rtxt_one rfl]
    clear L1 hs ht hl1 hl2 hl3 hr hn1 hn2 HD3 HW2 HW3
    go_enter Tryz.func28, Tryz.ntmps28
    go_upto_region 2 with fail
    obtain ⟨W0, hW0⟩ : ∃ W0, W0 = (w.alloc (ratO s ⟨#[49]⟩)).alloc (.cells #[.pointer none, .slice none 0 0] 100) := ⟨_, rfl⟩
    rw [← hW0] at HZ ⊢
    clear hW0
    have c1 := HZ.out.box.num
    go_wp2_with fail
    refine (HW1.out _ HZ.out).mono ?_
    rintro e w1 ⟨rfl, Z1⟩
    have c2 := Z1.box.den
    have HZ1 := Lib.hid Z1
    clear Z1 c1
    go_wp2_with fail
    refine (HD1.out _ HZ1.out).mono ?_
    rintro e w2 ⟨rfl, h2⟩
    have HB := Lib.hid h2
    clear h2
    go_wp2_with fail
    go_ret
    exact ⟨rfl, HB.out⟩
  · rw [rtxt_far h, ← hr]
    have hb : (t.toList == [49]) = false := by
      rw [Bool.eq_false_iff]; intro k; exact h (by apply ByteArray.ext; apply Array.toList_inj.1; have := eq_of_beq k; rwa [Lib.toList_data] at this)
    have hb2 : (t.toList != [49]) = true := by unfold bne; rw [hb]; rfl
    clear L1 hs ht hl1 hl2 hl3 hr hn1 hn2 HD1
    go_enter Tryz.func28, Tryz.ntmps28
    go_upto_region 2 with fail
    obtain ⟨W0, hW0⟩ : ∃ W0, W0 = (w.alloc (ratO s t)).alloc (.cells #[.pointer none, .slice none 0 0] 100) := ⟨_, rfl⟩
    rw [← hW0] at HZ ⊢
    clear hW0
    have c1 := HZ.out.box.num
    go_wp2_with fail
    refine (HW1.out _ HZ.out).mono ?_
    rintro e w1 ⟨rfl, Z1⟩
    have c2 := Z1.box.den
    have HZ1 := Lib.hid Z1
    clear Z1 c1
    go_wp2_with fail
    refine (HW2.out _ HZ1.out).mono ?_
    rintro e w2 ⟨rfl, Z2⟩
    have c3 := Z2.box.den
    have HZ2 := Lib.hid Z2
    clear Z2 c2
    go_wp2_with fail
    refine (HW3.out _ HZ2.out).mono ?_
    rintro e w3 ⟨rfl, Z3⟩
    have HZ3 := Lib.hid Z3
    clear Z3 c3
    go_wp2_with fail
    refine (HD3.out _ HZ3.out).mono ?_
    rintro e w4 ⟨rfl, h2⟩
    have HB := Lib.hid h2
    clear h2
    go_wp2_with fail
    go_ret
    exact ⟨rfl, HB.out⟩
end Go.Proofs.YtdgbplppabalgaaGreatDoor

namespace Go.Proofs.YtdgbplppabalgaaGreatDoor
open Go.RowKit

theorem ba_eq {s t : ByteArray} (h : s.toList = t.toList) : s = t := by
  rw [Lib.toList_data, Lib.toList_data] at h
  exact ByteArray.ext (Array.toList_inj.1 h)
theorem ba_ne {s : ByteArray} {l : List UInt8} (h : ¬ s = ⟨l.toArray⟩) : (s.toList == l) = false := by
  rw [Bool.eq_false_iff]; intro k; have e := eq_of_beq k
  exact h (ba_eq (by rw [e, Lib.toList_data]))
theorem ba_yes {s : ByteArray} {l : List UInt8} (h : s = ⟨l.toArray⟩) : (s.toList == l) = true := by rw [h, Lib.toList_data]; simp
theorem rgY_yes {s : ByteArray} (h : rgY s = true) : ∃ z : Int, s = zS z ∧ (str z.natAbs).size ≤ 400 := by
  unfold rgY at h
  rw [Bool.and_eq_true] at h
  obtain ⟨z, rfl⟩ := zCan_yes h.1
  exact ⟨z, rfl, by have := of_decide_eq_true h.2; rw [magB_zS] at this; exact this⟩
theorem chk_rg (s : ByteArray) : chkZ s = if rgY s = true then 0 else 2 := by
  unfold chkZ rgY
  by_cases h : zCan s = true ∧ (magB s).size ≤ 400
  · rw [if_pos h, if_pos (by rw [h.1, decide_eq_true h.2]; rfl)]
  · rw [if_neg h, if_neg (by intro k; rw [Bool.and_eq_true] at k; exact h ⟨k.1, of_decide_eq_true k.2⟩)]
/-- a right fraction, as the document says it -/
def riB (s t : ByteArray) : Bool := rgY s && rgY t && decide (0 < zV t) && decide (Nat.gcd (zV s).natAbs (zV t).natAbs = 1)
def chR (b : Bool) : Int := if b = true then 0 else 2
theorem strOne : str 1 = ⟨#[49]⟩ := (str_eq 1 (by decide) (by decide)).symm
theorem str_one_iff {n : Nat} (h : ¬ n = 1) : ¬ str n = ⟨#[49]⟩ := fun k => h (str_inj (by rw [strOne]; exact k))
set_option maxHeartbeats 1600000 in
set_option maxRecDepth 100000 in
theorem checkF_any (s t : ByteArray) (w : World) (hw : Std w) (hs : s.size ≤ 1000001) (ht : t.size ≤ 1000001) :
    Calls Tryz.prog 16 #[ratV s t] w fun e w' => e = .returned (.int .i64 (chR (riB s t))) ∧ Below w.heap.size w w' := by
  have HZ := Lib.hid (BxR.new w s t)
  have HB := Lib.hid ((Below.refl w.heap.size w).alloc (Nat.le_refl _) (ratO s t))
  have HC1 := Lib.hid (fun wx => checkW_any s wx hs)
  have HC2 := Lib.hid (fun wx => checkW_any t wx ht)
  rw [chk_rg] at HC1 HC2
  cases h1 : rgY s with
  | false =>
    rw [h1] at HC1
    have hV := Lib.hid (show chR (riB s t) = 2 by unfold riB; rw [h1]; rfl)
    rw [if_neg (by decide)] at HC1
    obtain ⟨V, hVV⟩ : ∃ V, V = chR (riB s t) := ⟨_, rfl⟩
    rw [← hVV] at hV ⊢
    clear h1 hVV HC2
    go_enter Tryz.func16, Tryz.ntmps16
    go_upto_region 1 with fail
    obtain ⟨W0, hW0⟩ : ∃ W0, W0 = w.alloc (ratO s t) := ⟨_, rfl⟩
    rw [← hW0] at HZ HB ⊢
    clear hW0
    have c1 := HZ.out.num
    go_wp2_with fail
    refine (HC1.out _).mono ?_
    rintro e w1 ⟨rfl, b1⟩
    have B1 := Lib.hid (HB.out.trans (b1.mono HB.out.size))
    clear b1
    go_wp2_with fail
    go_ret
    exact ⟨by rw [hV.out]; rfl, B1.out⟩
  | true =>
    rw [h1] at HC1
    rw [if_pos rfl] at HC1
    cases h2 : rgY t with
    | false =>
      rw [h2] at HC2
      rw [if_neg (by decide)] at HC2
      have hV := Lib.hid (show chR (riB s t) = 2 by unfold riB; rw [h1, h2]; rfl)
      obtain ⟨V, hVV⟩ : ∃ V, V = chR (riB s t) := ⟨_, rfl⟩
      rw [← hVV] at hV ⊢
      clear h1 h2 hVV
      go_enter Tryz.func16, Tryz.ntmps16
      go_upto_region 1 with fail
      obtain ⟨W0, hW0⟩ : ∃ W0, W0 = w.alloc (ratO s t) := ⟨_, rfl⟩
      rw [← hW0] at HZ HB ⊢
      clear hW0
      have c1 := HZ.out.num
      go_wp2_with fail
      refine (HC1.out _).mono ?_
      rintro e w1 ⟨rfl, b1⟩
      have B1 := Lib.hid (HB.out.trans (b1.mono HB.out.size))
      have Z1 := Lib.hid (HZ.out.below b1)
      have c2 := Z1.out.den
      clear b1 c1
      go_wp2_with fail
      refine (HC2.out _).mono ?_
      rintro e w2 ⟨rfl, b2⟩
      have B2 := Lib.hid (B1.out.trans (b2.mono B1.out.size))
      clear b2
      go_wp2_with fail
      go_ret
      exact ⟨by rw [hV.out]; rfl, B2.out⟩
    | true =>
      rw [h2] at HC2
      rw [if_pos rfl] at HC2
      obtain ⟨n, rfl, hn⟩ := rgY_yes h1
      obtain ⟨d, rfl, hd⟩ := rgY_yes h2
      have HSG := Lib.hid (fun wx => sign_any d wx (by omega))
      have HG := Lib.hid (fun wx (hw : Std wx) => gcdW_any n d wx hw (by omega) (by omega))
      by_cases hp : 0 < d
      · rw [sgnI_pos hp] at HSG
        by_cases hg : Nat.gcd n.natAbs d.natAbs = 1
        · have hV := Lib.hid (show chR (riB (zS n) (zS d)) = 0 by unfold riB; rw [h1, h2, zV_zS, zV_zS, decide_eq_true hp, decide_eq_true hg]; rfl)
          rw [hg, strOne] at HG
          obtain ⟨V, hVV⟩ : ∃ V, V = chR (riB (zS n) (zS d)) := ⟨_, rfl⟩
          rw [← hVV] at hV ⊢
          obtain ⟨s, hs1⟩ : ∃ s, s = zS n := ⟨_, rfl⟩
          obtain ⟨t, ht1⟩ : ∃ s, s = zS d := ⟨_, rfl⟩
          have HS := Lib.hid hw
          rw [← hs1, ← ht1] at HZ HB HG ⊢
          rw [← hs1] at HC1
          rw [← ht1] at HC2 HSG
          clear h1 h2 hVV hs ht hn hd hp hg hs1 ht1 hw
          go_enter Tryz.func16, Tryz.ntmps16
          go_upto_region 1 with fail
          obtain ⟨W0, hW0⟩ : ∃ W0, W0 = w.alloc (ratO s t) := ⟨_, rfl⟩
          rw [← hW0] at HZ HB ⊢
          clear hW0
          have c1 := HZ.out.num
          go_wp2_with fail
          refine (HC1.out _).mono ?_
          rintro e w1 ⟨rfl, b1⟩
          have B1 := Lib.hid (HB.out.trans (b1.mono HB.out.size))
          have Z1 := Lib.hid (HZ.out.below b1)
          have c2 := Z1.out.den
          clear b1 c1
          go_wp2_with fail
          refine (HC2.out _).mono ?_
          rintro e w2 ⟨rfl, b2⟩
          have B2 := Lib.hid (B1.out.trans (b2.mono B1.out.size))
          have Z2 := Lib.hid (Z1.out.below b2)
          have c3 := Z2.out.den
          have c4 := Z2.out.num
          clear b2 c2
          go_wp2_with fail
          refine (HSG.out _).mono ?_
          rintro e w3 ⟨rfl, b3⟩
          obtain rfl := b3
          go_wp2_with fail
          refine (HG.out _ (HS.out.below B2.out)).mono ?_
          rintro e w4 ⟨rfl, b4⟩
          have B4 := Lib.hid (B2.out.trans (b4.mono B2.out.size))
          clear b4
          go_wp2_with fail
          go_ret
          exact ⟨by rw [hV.out]; rfl, B4.out⟩
        · have hV := Lib.hid (show chR (riB (zS n) (zS d)) = 2 by unfold riB; rw [h1, h2, zV_zS, zV_zS, decide_eq_true hp, decide_eq_false hg]; rfl)
          have hgb := ba_ne (l := [49]) (str_one_iff hg)
          have hgc : ((str (Nat.gcd n.natAbs d.natAbs)).toList != [49]) = true := by unfold bne; rw [hgb]; rfl
          obtain ⟨g, hgg⟩ : ∃ g, g = str (Nat.gcd n.natAbs d.natAbs) := ⟨_, rfl⟩
          rw [← hgg] at HG hgb hgc
          obtain ⟨V, hVV⟩ : ∃ V, V = chR (riB (zS n) (zS d)) := ⟨_, rfl⟩
          rw [← hVV] at hV ⊢
          obtain ⟨s, hs1⟩ : ∃ s, s = zS n := ⟨_, rfl⟩
          obtain ⟨t, ht1⟩ : ∃ s, s = zS d := ⟨_, rfl⟩
          have HS := Lib.hid hw
          rw [← hs1, ← ht1] at HZ HB HG ⊢
          rw [← hs1] at HC1
          rw [← ht1] at HC2 HSG
          clear h1 h2 hVV hs ht hn hd hp hg hs1 ht1 hw hgg
          go_enter Tryz.func16, Tryz.ntmps16
          go_upto_region 1 with fail
          obtain ⟨W0, hW0⟩ : ∃ W0, W0 = w.alloc (ratO s t) := ⟨_, rfl⟩
          rw [← hW0] at HZ HB ⊢
          clear hW0
          have c1 := HZ.out.num
          go_wp2_with fail
          refine (HC1.out _).mono ?_
          rintro e w1 ⟨rfl, b1⟩
          have B1 := Lib.hid (HB.out.trans (b1.mono HB.out.size))
          have Z1 := Lib.hid (HZ.out.below b1)
          have c2 := Z1.out.den
          clear b1 c1
          go_wp2_with fail
          refine (HC2.out _).mono ?_
          rintro e w2 ⟨rfl, b2⟩
          have B2 := Lib.hid (B1.out.trans (b2.mono B1.out.size))
          have Z2 := Lib.hid (Z1.out.below b2)
          have c3 := Z2.out.den
          have c4 := Z2.out.num
          clear b2 c2
          go_wp2_with fail
          refine (HSG.out _).mono ?_
          rintro e w3 ⟨rfl, b3⟩
          obtain rfl := b3
          go_wp2_with fail
          refine (HG.out _ (HS.out.below B2.out)).mono ?_
          rintro e w4 ⟨rfl, b4⟩
          have B4 := Lib.hid (B2.out.trans (b4.mono B2.out.size))
          clear b4
          go_wp2_with fail
          go_ret
          exact ⟨by rw [hV.out]; rfl, B4.out⟩
      · have hV := Lib.hid (show chR (riB (zS n) (zS d)) = 2 by unfold riB; rw [h1, h2, zV_zS, zV_zS, decide_eq_false hp]; rfl)
        have hsw := sgnI_ways d
        obtain ⟨k, hk⟩ : ∃ k, k = sgnI d := ⟨_, rfl⟩
        rw [← hk] at HSG hsw
        have hkl : decide (k ≤ 0) = true := decide_eq_true (by omega)
        have hkl2 : k ≤ 0 := by omega
        obtain ⟨V, hVV⟩ : ∃ V, V = chR (riB (zS n) (zS d)) := ⟨_, rfl⟩
        rw [← hVV] at hV ⊢
        obtain ⟨s, hs1⟩ : ∃ s, s = zS n := ⟨_, rfl⟩
        obtain ⟨t, ht1⟩ : ∃ s, s = zS d := ⟨_, rfl⟩
        rw [← hs1, ← ht1] at HZ HB ⊢
        rw [← hs1] at HC1
        rw [← ht1] at HC2 HSG
        clear h1 h2 hVV hs ht hn hd hp hs1 ht1 hw HG hsw hk
        go_enter Tryz.func16, Tryz.ntmps16
        go_upto_region 1 with fail
        obtain ⟨W0, hW0⟩ : ∃ W0, W0 = w.alloc (ratO s t) := ⟨_, rfl⟩
        rw [← hW0] at HZ HB ⊢
        clear hW0
        have c1 := HZ.out.num
        go_wp2_with fail
        refine (HC1.out _).mono ?_
        rintro e w1 ⟨rfl, b1⟩
        have B1 := Lib.hid (HB.out.trans (b1.mono HB.out.size))
        have Z1 := Lib.hid (HZ.out.below b1)
        have c2 := Z1.out.den
        clear b1 c1
        go_wp2_with fail
        refine (HC2.out _).mono ?_
        rintro e w2 ⟨rfl, b2⟩
        have B2 := Lib.hid (B1.out.trans (b2.mono B1.out.size))
        have Z2 := Lib.hid (Z1.out.below b2)
        have c3 := Z2.out.den
        clear b2 c2
        go_wp2_with fail
        refine (HSG.out _).mono ?_
        rintro e w3 ⟨rfl, b3⟩
        obtain rfl := b3
        go_wp2_with fail
        go_ret
        exact ⟨by rw [hV.out]; rfl, B2.out⟩
end Go.Proofs.YtdgbplppabalgaaGreatDoor

namespace Go.Proofs.YtdgbplppabalgaaGreatDoor
open Go.RowKit

theorem str_2 : str 2 = ⟨#[50]⟩ := (str_eq 2 (by decide) (by decide)).symm
theorem str_3 : str 3 = ⟨#[51]⟩ := (str_eq 3 (by decide) (by decide)).symm
theorem str_5 : str 5 = ⟨#[53]⟩ := (str_eq 5 (by decide) (by decide)).symm
theorem zS_3 : zS 3 = ⟨#[51]⟩ := by rw [zS_pos (by decide)]; exact str_3
theorem zS_m3 : zS (-3) = ⟨#[45, 51]⟩ := by
  rw [zS_neg (by decide), show (-3 : Int).natAbs = 3 from rfl, str_3]; rfl
theorem zS_1 : zS 1 = ⟨#[49]⟩ := by rw [zS_pos (by decide)]; exact strOne
theorem zS_2 : zS 2 = ⟨#[50]⟩ := by rw [zS_pos (by decide)]; exact str_2
theorem zS_5 : zS 5 = ⟨#[53]⟩ := by rw [zS_pos (by decide)]; exact str_5
theorem kn_s : newS 6 (-4) = ⟨#[45, 51]⟩ := by
  unfold newS newN lowN
  rw [if_neg (by decide), if_pos (by decide)]
  exact (congrArg zS (by decide : _ = (-3 : Int))).trans zS_m3
theorem kn_t : newT 6 (-4) = ⟨#[50]⟩ := by
  unfold newT newD lowD
  rw [if_neg (by decide), if_pos (by decide)]
  exact (congrArg str (by decide : _ = 2)).trans str_2
theorem kn_p : parO ⟨#[50, 46, 53, 48]⟩ = (⟨#[53]⟩, ⟨#[50]⟩, 0) := by
  rw [parO_dec (b := [50]) (r := [53, 48]) (by decide) rfl (by decide) (by decide)]
  have e1 : sgN (negB ⟨([50] : List UInt8).toArray⟩) (val ((magB ⟨([50] : List UInt8).toArray⟩).data.toList ++ [53, 48])) = 250 := by decide
  have e2 : ((10 ^ ([53, 48] : List UInt8).length : Nat) : Int) = 100 := by decide
  rw [e1, e2]
  have e3 : newS 250 100 = ⟨#[53]⟩ := by
    unfold newS newN lowN
    rw [if_neg (by decide), if_neg (by decide)]
    exact (congrArg zS (by decide : _ = (5 : Int))).trans zS_5
  have e4 : newT 250 100 = ⟨#[50]⟩ := by
    unfold newT newD lowD
    rw [if_neg (by decide), if_neg (by decide)]
    exact (congrArg str (by decide : _ = 2)).trans str_2
  rw [e3, e4]; rfl
theorem kn_a : zS (lowN (-3 * 2 + 5 * 2) (2 * 2 : Int).natAbs) = ⟨#[49]⟩ := (congrArg zS (by unfold lowN; decide : _ = (1 : Int))).trans zS_1
theorem kn_b : str (lowD (-3 * 2 + 5 * 2) (2 * 2 : Int).natAbs) = ⟨#[49]⟩ := (congrArg str (by unfold lowD; decide : _ = 1)).trans strOne
theorem kn_n : zS ((5 + 5 + 2 : Int).fdiv (2 + 2)) = ⟨#[51]⟩ := (congrArg zS (by decide : _ = (3 : Int))).trans zS_3
theorem one_sz (n : Nat) (h : n < 10) : (str n).size ≤ 10000 := Nat.le_trans (str_big (n := 1) h (by decide)) (by decide)
set_option maxHeartbeats 1600000 in
set_option maxRecDepth 100000 in
theorem knownF_any (w : World) (hs : Stf w) :
    Calls Tryz.prog 13 #[] w fun e w' => e = .returned (.bool true) ∧ Below w.heap.size w w' := by
  have HO := Lib.hid (fun wx (hw : Std wx) => ofF_any 6 (-4) wx hw (by decide) (by decide) (by decide) (by decide))
  have e0 : newE (-4) = 0 := by decide
  rw [kn_s, kn_t, e0] at HO
  have HP := Lib.hid (fun wx (hw : Stf wx) => paF_any ⟨#[50, 46, 53, 48]⟩ wx hw)
  rw [kn_p] at HP
  have HN := Lib.hid (fun wx (hw : Std wx) => nearF_any 5 2 wx hw (by decide) (by decide) (by decide))
  rw [kn_n, zS_5, zS_2] at HN
  have HA := Lib.hid (fun wx (hw : Std wx) => addF_any (-3) 2 5 2 wx hw (one_sz _ (by decide)) (one_sz _ (by decide)) (one_sz _ (by decide)) (one_sz _ (by decide)) (by decide) (by decide))
  rw [kn_a, kn_b, zS_m3, zS_5, zS_2] at HA
  have HT := Lib.hid (fun wx => textF_any ⟨#[45, 51]⟩ ⟨#[50]⟩ wx (by decide) (by decide))
  have e1 : rtxt ⟨#[45, 51]⟩ ⟨#[50]⟩ = ⟨#[45, 51, 47, 50]⟩ := by rw [rtxt_far (by decide)]; rfl
  rw [e1] at HT
  have HS := Lib.hid hs
  clear e0 e1 hs
  go_enter Tryz.func13, Tryz.ntmps13
  go_wp2_with fail
  refine (HO.out _ HS.out.std).mono ?_
  rintro e w1 ⟨rfl, b1⟩
  have B1 := Lib.hid b1
  clear b1
  go_upto_region 2 with fail
  have P1 := Lib.hid (BxR.new w1 ⟨#[45, 51]⟩ ⟨#[50]⟩)
  have B2 := Lib.hid (B1.out.alloc B1.out.size (ratO ⟨#[45, 51]⟩ ⟨#[50]⟩))
  obtain ⟨gp, hgp⟩ : ∃ g, g = w1.heap.size := ⟨_, rfl⟩
  obtain ⟨W2, hW2⟩ : ∃ W2, W2 = w1.alloc (ratO ⟨#[45, 51]⟩ ⟨#[50]⟩) := ⟨_, rfl⟩
  rw [← hgp, ← hW2] at P1
  rw [← hW2] at B2
  rw [← hW2, ← hgp]
  clear hgp hW2 B1
  go_wp2_with fail
  refine (HP.out _ (HS.out.below B2.out)).mono ?_
  rintro e w3 ⟨rfl, b3⟩
  have B3 := Lib.hid (B2.out.trans (b3.mono B2.out.size))
  have P3 := Lib.hid (P1.out.below b3)
  clear b3 B2 P1
  go_upto_region 3 with fail
  have Q4 := Lib.hid (BxR.new w3 ⟨#[53]⟩ ⟨#[50]⟩)
  have B4 := Lib.hid (B3.out.alloc B3.out.size (ratO ⟨#[53]⟩ ⟨#[50]⟩))
  have P4 := Lib.hid (P3.out.below ((Below.refl _ _).alloc (Nat.le_refl _) (ratO ⟨#[53]⟩ ⟨#[50]⟩)))
  obtain ⟨gq, hgq⟩ : ∃ g, g = w3.heap.size := ⟨_, rfl⟩
  obtain ⟨W4, hW4⟩ : ∃ W4, W4 = w3.alloc (ratO ⟨#[53]⟩ ⟨#[50]⟩) := ⟨_, rfl⟩
  rw [← hgq, ← hW4] at Q4
  rw [← hW4] at B4 P4
  rw [← hW4, ← hgq]
  clear hgq hW4 B3 P3
  have c1 := P4.out.num
  have c2 := P4.out.den
  have c3 := Q4.out.num
  have c4 := Q4.out.den
  go_wp2_with fail
  refine (HN.out _ (HS.out.below B4.out).std).mono ?_
  rintro e w5 ⟨rfl, b5⟩
  have B5 := Lib.hid (B4.out.trans (b5.mono B4.out.size))
  have P5 := Lib.hid (P4.out.below b5)
  have Q5 := Lib.hid (Q4.out.below b5)
  clear b5 c1 c2 c3 c4 B4 P4 Q4
  have c1 := P5.out.num
  have c2 := P5.out.den
  have c3 := Q5.out.num
  have c4 := Q5.out.den
  go_wp2_with fail
  refine (HA.out _ (HS.out.below B5.out).std).mono ?_
  rintro e w6 ⟨rfl, b6⟩
  have B6 := Lib.hid (B5.out.trans (b6.mono B5.out.size))
  have P6 := Lib.hid (P5.out.below b6)
  clear b6 c1 c2 c3 c4 B5 P5 Q5
  have c1 := P6.out.num
  have c2 := P6.out.den
  go_wp2_with fail
  refine (HT.out _).mono ?_
  rintro e w7 ⟨rfl, b7⟩
  have B7 := Lib.hid (B6.out.trans (b7.mono B6.out.size))
  clear b7 c1 c2
  go_wp2_with fail
  go_ret
  exact ⟨rfl, B7.out⟩
end Go.Proofs.YtdgbplppabalgaaGreatDoor

namespace Go.Proofs.YtdgbplppabalgaaGreatDoor
open Go.RowKit

set_option maxHeartbeats 800000 in
theorem signWY_any (b : Bool) (o : Option Addr) (c : Nat) (L : List Nat) (z : Int) (w : World) (h : Wh w b o c L z) :
    Calls Tryz.prog 62 #[whV b o c L] w fun e w' => e = .returned (.int .i64 (sgnI z)) ∧ Below w.heap.size w w' := by
  have HX := BxO.new w w.heap.size (Nat.le_refl _) b (.slice o L.length c)
  have x0 := HX.neg
  have x1 := HX.dig
  have HB := Lib.hid ((Below.refl w.heap.size w).alloc (Nat.le_refl _) (.cells #[.bool b, .slice o L.length c] 43))
  have hz := h.len_zero
  have hb := h.neg
  clear HX h
  obtain ⟨n, hn⟩ : ∃ n, n = L.length := ⟨_, rfl⟩
  unfold whV
  rw [← hn] at x0 x1 HB hz ⊢
  clear hn
  by_cases h0 : z = 0
  · have hn0 : n = 0 := hz.2 h0
    subst hn0
    have HV := Lib.hid (show sgnI z = 0 by rw [h0]; rfl)
    clear hz hb h0
    go_enter Tryz.func62, Tryz.ntmps62
    go_wp2_with fail
    go_ret
    exact ⟨by rw [HV.out]; rfl, HB.out⟩
  · have hn0 : ((n : Int) == 0) = false := by rw [beq_eq_false_iff_ne]; intro q; exact h0 (hz.1 (by omega))
    cases b
    · have HV := Lib.hid (show sgnI z = 1 by have := of_decide_eq_false hb.symm; rcases sgnI_ways z with ⟨q, e⟩ | ⟨q, e⟩ | ⟨q, e⟩ <;> omega)
      clear hz hb h0
      go_enter Tryz.func62, Tryz.ntmps62
      go_wp2_with fail
      go_ret
      exact ⟨by rw [HV.out]; rfl, HB.out⟩
    · have HV := Lib.hid (show sgnI z = -1 by have := of_decide_eq_true hb.symm; rcases sgnI_ways z with ⟨q, e⟩ | ⟨q, e⟩ | ⟨q, e⟩ <;> omega)
      clear hz hb h0
      go_enter Tryz.func62, Tryz.ntmps62
      go_wp2_with fail
      go_ret
      exact ⟨by rw [HV.out]; rfl, HB.out⟩
theorem BxO.kept {w w' : World} {B g : Nat} {b : Bool} {v : Value} (h : BxO w B g b v) (hb : Below w.heap.size w w') : BxO w' B g b v := by
  refine World.ownsRow.kept (row := none) h ⟨hb.os, hb.tape, hb.output, hb.size, fun j hj _ => hb.block j hj⟩ (.inr (by simp [Value.ownBlock]))
set_option maxHeartbeats 1600000 in
theorem negWY_any (b : Bool) (o : Option Addr) (c : Nat) (L : List Nat) (z : Int) (w : World) (h : Wh w b o c L z) :
    Calls Tryz.prog 53 #[whV b o c L] w fun e w' => (∃ (b' : Bool) (L' : List Nat), e = .returned (whV b' o c L') ∧ Wh w' b' o c L' (-z)) ∧ Below w.heap.size w w' := by
  have HX := BxO.new w w.heap.size (Nat.le_refl _) b (.slice o L.length c)
  have x0 := HX.neg
  have x1 := HX.dig
  have HA := (Below.refl w.heap.size w).alloc (Nat.le_refl _) (.cells #[.bool b, .slice o L.length c] 43)
  have HH := Lib.hid h
  clear h
  go_enter Tryz.func53, Tryz.ntmps53
  go_wp2_with fail
  obtain ⟨W1, hW1⟩ : ∃ W1, W1 = w.alloc (.cells #[.bool b, .slice o L.length c] 43) := ⟨_, rfl⟩
  rw [← hW1] at HX HA x0 x1 ⊢
  have hsz : W1.heap.size = w.heap.size + 1 := by rw [hW1]; exact push_sz _ _
  have HW2 := Lib.hid (BxO.new W1 w.heap.size (by omega) false (.slice none 0 0))
  have HB := Lib.hid (HA.alloc (by omega) (.cells #[.bool false, .slice none 0 0] 43))
  rw [hsz] at HW2
  obtain ⟨W2, hW2⟩ : ∃ W2, W2 = W1.alloc (.cells #[.bool false, .slice none 0 0] 43) := ⟨_, rfl⟩
  rw [← hW2] at HW2 HB ⊢
  clear hW1 hW2 hsz HA HX x0 x1
  have HT := Lib.hid (trimY_any (!b) o c L W2 (HH.out.pd.below HB.out))
  refine HT.out.mono ?_
  rintro e w1 ⟨rfl, h1⟩
  have B1 := Lib.hid (HB.out.trans (h1.mono HB.out.size))
  have R1 := Lib.hid (HW2.out.kept h1)
  have HN := Lib.hid (Wh.trimmed (!b) HH.out.pd (-z) (by rw [HH.out.pcs.val, Int.natAbs_neg]) (fun h0 => by
    rw [HH.out.neg]
    by_cases q : z < 0
    · rw [decide_eq_true q, decide_eq_false (by omega)]; rfl
    · rw [decide_eq_false q, decide_eq_true (by omega)]; rfl))
  clear h1 HT HB HW2
  obtain ⟨V, hV⟩ : ∃ V, V = (!b && decide (0 < (trimP L).length)) := ⟨_, rfl⟩
  obtain ⟨M, hM⟩ : ∃ M, M = trimP L := ⟨_, rfl⟩
  rw [← hM] at hV HN ⊢
  rw [← hV] at HN ⊢
  unfold whV
  obtain ⟨m, hm⟩ : ∃ m, m = M.length := ⟨_, rfl⟩
  have HM := Lib.hid hm
  rw [← hm]
  clear hV hM hm HH
  have f0 := R1.out.free 0
  have f1 := R1.out.free 1
  have e0 := R1.out.neg
  have e1 := R1.out.dig
  have Y1 := R1.out.set0 V
  have y1 := Y1.free 1
  have z1 := Y1.dig
  have Y2 := Y1.set1 (.slice o m c)
  have u0 := Y2.neg
  have u1 := Y2.dig
  have HBE := Lib.hid ((B1.out.setCell (p := ⟨w.heap.size + 1, 0, none⟩) (by show w.heap.size ≤ w.heap.size + 1; omega) (.bool V)).setCell (p := ⟨w.heap.size + 1, 1, none⟩) (by show w.heap.size ≤ w.heap.size + 1; omega) (.slice o m c))
  clear Y1 Y2 R1
  go_wp2_with fail
  (try simp only [Exit.inBlock, Exit.then])
  refine bodyPost_ret (v := .agg #[.bool V, .slice o m c]) ?_ rfl ⟨⟨V, M, by rw [HM.out], HN.out.below HBE.out⟩, HBE.out⟩
  rw [results_cell_one rfl]
  go_simp
end Go.Proofs.YtdgbplppabalgaaGreatDoor

namespace Go.Proofs.YtdgbplppabalgaaGreatDoor
open Go.RowKit

theorem canon_no {m : ByteArray} (h : m.data.toList.all isD = false) : canonL m.data.toList = false := by unfold canonL; rw [h, Bool.and_false]
theorem canon_nil {m : ByteArray} (h : m.size = 0) : canonL m.data.toList = false := by
  have := len_list m
  rw [h] at this
  rw [List.length_eq_zero_iff.1 this]; rfl
theorem canon_hd {m : ByteArray} (h0 : 0 < m.size) (h : m.data.toList.all isD = true) : canonL m.data.toList = (!(((m[0]'h0).toNat : Int) == 48) || decide (m.size = 1)) := by
  unfold canonL
  rw [h, Bool.and_true, hd1 h0]
  have hl := len_list m
  have hg := at_list m 0 h0
  cases hb : (((m[0]'h0).toNat : Int) == 48) with
  | false => rw [show (((m[0]'h0).toNat : Int) != 48) = true by rw [bne, hb]; rfl]; simp
  | true =>
    rw [show (((m[0]'h0).toNat : Int) != 48) = false by rw [bne, hb]; rfl]
    have h48 : m[0] = 48 := by have := beq_iff_eq.1 hb; exact UInt8.toNat_inj.1 (by show _ = 48; omega)
    rw [Bool.or_false, Bool.not_true, Bool.false_or, Bool.eq_iff_iff, beq_iff_eq, decide_eq_true_iff, tl]
    constructor
    · intro q; rw [q] at hl; simp at hl; omega
    · intro q
      cases hm : m.data.toList with
      | nil => rw [hm] at hl; simp at hl; omega
      | cons c l =>
        rw [hm] at hl
        have : l = [] := by cases l with
          | nil => rfl
          | cons d l => simp at hl; omega
        have hcc : c = m[0] := by rw [← hg]; simp [hm]
        rw [this, hcc, h48]
def rgt (s : ByteArray) : Bool := zCan s && decide ((magB s).size ≤ 400)
theorem chk_rgt (s : ByteArray) : chkZ s = if rgt s = true then 0 else 2 := by
  unfold chkZ rgt
  by_cases h : zCan s = true ∧ (magB s).size ≤ 400
  · rw [if_pos h, if_pos (by rw [h.1, decide_eq_true h.2]; rfl)]
  · rw [if_neg h, if_neg (by intro q; rw [Bool.and_eq_true, decide_eq_true_iff] at q; exact h q)]
theorem n63 {n : Int} (h1 : -9223372036854775808 ≤ n) (h2 : n ≤ 9223372036854775807) : (str n.natAbs).size ≤ 1000000 := Nat.le_trans (str_big (n := 19) (by omega) (by decide)) (by decide)



end Go.Proofs.YtdgbplppabalgaaGreatDoor

namespace Go.Proofs.YtdgbplppabalgaaGreatDoor
open Go.RowKit





theorem pcs_len {p : List Nat} {a k : Nat} (h : Pcs p a) (hs : (str a).size ≤ k) : p.length ≤ k := by
  have ha := lt_of_size hs
  by_cases h0 : p = []
  · rw [h0]; simp
  · have h1 := h.len_lower h0
    apply Nat.le_of_not_lt; intro hlt
    have h2 : (10 : Nat) ^ k ≤ 1000000000 ^ (p.length - 1) := by
      calc (10 : Nat) ^ k ≤ 10 ^ (9 * (p.length - 1)) := Nat.pow_le_pow_right (by decide) (by omega)
        _ = _ := pow9 _
    omega


end Go.Proofs.YtdgbplppabalgaaGreatDoor

namespace Go.Proofs.YtdgbplppabalgaaGreatDoor
open Go.RowKit

theorem made_zero (n : Nat) : (madeCells (Value.int .i64 0).cells n).toList = List.replicate n (Value.int .i64 0) := by
  rw [show (Value.int .i64 0).cells = #[.int .i64 0] from rfl, toList_madeCells_one]
theorem Ow.made {w : World} {B g n : Nat} (h : w.ownsRow B 3 1 (.slice (some ⟨g, 0, none⟩) n n) n (madeCells (Value.int .i64 0).cells (n * 1)).toList) : Ow w B (some ⟨g, 0, none⟩) n (List.replicate n 0) := by
  unfold Ow
  rw [List.length_replicate]
  have e : (madeCells (Value.int .i64 0).cells (n * 1)).toList = cI (List.replicate n 0) := by
    rw [Nat.mul_one, show cI (List.replicate n 0) = List.replicate n (Value.int .i64 0) by simp [cI]]
    exact made_zero n
  rw [← e]; exact h
theorem Ow.cell {w : World} {B g cap : Nat} {l : List Nat} (h : Ow w B (some ⟨g, 0, none⟩) cap l) (i : Nat) (hi : i < l.length) : w.cell? ⟨g, i, none⟩ = some (.int .i64 ((l[i]'hi : Nat) : Int)) := by
  rw [World.ownsRow.cellAt h i (by omega), cI_at l i hi]
theorem Ow.free {w : World} {B g cap : Nat} {l : List Nat} (h : Ow w B (some ⟨g, 0, none⟩) cap l) (i : Nat) : w.frozen? ⟨g, i, none⟩ = false := World.ownsRow.frozenAt h i
theorem Ow.set {w : World} {B g cap : Nat} {l : List Nat} (h : Ow w B (some ⟨g, 0, none⟩) cap l) (k v : Nat) : Ow (w.setCell ⟨g, k, none⟩ (.int .i64 (v : Int))) B (some ⟨g, 0, none⟩) cap (l.set k v) := by
  have h1 := (World.ownsRow.stored h k (.int .i64 (v : Int))).1
  rw [cI_set] at h1
  unfold Ow; rw [List.length_set]; exact h1
theorem Ow.drewN {w : World} {B : Nat} {vo : Option Addr} {vc : Nat} {l : List Nat} (h : Ow w B vo vc l) (n : Nat) : Ow (w.drewN n) B vo vc l := h
theorem set_last {L : List Nat} {k c A : Nat} (hk : k < L.length) (h0 : L[k] = 0) (h : pv L + 1000000000 ^ k * c = A) : pv (L.set k c) = A := by
  have h1 := pv_set c hk
  rw [h0] at h1; omega
end Go.Proofs.YtdgbplppabalgaaGreatDoor
