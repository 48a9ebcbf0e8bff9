/-
  The law FractionParses: the walk.
-/
import Derived.Test.YtdgbplppabalgaaGreatDoorL37
import Derived.Test.YtdgbplppabalgaaGreatDoorJ20
import Derived.Test.YtdgbplppabalgaaGreatDoorJ17
import Derived.OpenShut
namespace Go.Proofs.YtdgbplppabalgaaGreatDoor
open Go.RowKit

set_option maxHeartbeats 6400000 in
set_option maxRecDepth 100000 in
theorem lawParses_any (s : ByteArray) (z : Int) (w : World) (hs : Stf w) (hz : (Lit.int .u16 z).wf = true) :
    Calls Tryz.prog 6 #[.string s, .int .u16 z] w fun e w' => e = .returned (.bool true) ∧ Below w.heap.size w w' := by
  have hbz := bounds_u16 hz
  have HS := Lib.hid hs
  have HK := Lib.hid (fun wx (hw : Stf wx) => knownF_any wx hw)
  by_cases hl : (60 : Int) < s.size
  · clear hs hz hbz
    go_enter Tryz.func6, Tryz.ntmps6
    go_wp2_with fail
    refine (HK.out _ HS.out).mono ?_
    rintro e w1 ⟨rfl, b⟩
    have B1 := Lib.hid b
    clear b
    go_wp2_with fail
    refine (HK.out _ (HS.out.below B1.out)).mono ?_
    rintro e w2 ⟨rfl, b⟩
    have B2 := Lib.hid (B1.out.trans (b.mono B1.out.size))
    clear b
    go_wp2_with fail
    go_ret
    exact ⟨rfl, B2.out⟩
  · obtain ⟨c, hc⟩ : ∃ c : Nat, (c : Int) = z % 401 := ⟨(z % 401).toNat, by omega⟩
    have hc4 : c ≤ 400 := by omega
    have HRP := fun wx => Tryz.strings_Repeat ⟨#[48]⟩ c wx (by omega) (by show 1 * c ≤ _; omega)
    obtain ⟨_, _, _, hqs⟩ := val_ten c
    have h48 : (⟨#[48]⟩ : ByteArray).data.toList = [48] := rfl
    rw [h48] at HRP
    obtain ⟨q, hq⟩ : ∃ q : ByteArray, q = ⟨(Lib.repeatL [48] c).toArray⟩ := ⟨_, rfl⟩
    rw [← hq] at HRP hqs
    rw [hc] at HRP
    have hts : (s ++ q).size ≤ 1000 := by rw [ByteArray.size_append]; omega
    have hsum : s.size + q.size ≤ 9223372036854775807 := by omega
    have HP1 := Lib.hid (fun wx (hw : Stf wx) => paF_any (s ++ q) wx hw)
    have HP2 := Lib.hid (fun wx (hw : Stf wx) => paF_any s wx hw)
    have HR1 := Lib.hid (fun wx (hw : Std wx) => prR_any (s ++ q) wx hw hts)
    have HR2 := Lib.hid (fun wx (hw : Std wx) => prR_any s wx hw (by omega))
    have HRP := Lib.hid HRP
    obtain ⟨ta, h1⟩ : ∃ x, x = (parO (s ++ q)).1 := ⟨_, rfl⟩
    obtain ⟨tb, h2⟩ : ∃ x, x = (parO (s ++ q)).2.1 := ⟨_, rfl⟩
    obtain ⟨te, h3⟩ : ∃ x, x = (parO (s ++ q)).2.2 := ⟨_, rfl⟩
    obtain ⟨sa, h4⟩ : ∃ x, x = (parO s).1 := ⟨_, rfl⟩
    obtain ⟨sb, h5⟩ : ∃ x, x = (parO s).2.1 := ⟨_, rfl⟩
    obtain ⟨se, h6⟩ : ∃ x, x = (parO s).2.2 := ⟨_, rfl⟩
    rw [← h1, ← h2, ← h3] at HP1 HR1
    rw [← h4, ← h5, ← h6] at HP2 HR2
    clear hs hz hc hc4 hqs h48 hq hts h1 h2 h3 h4 h5 h6
    go_enter Tryz.func6, Tryz.ntmps6
    go_wp2_with fail
    refine (HK.out _ HS.out).mono ?_
    rintro e w1 ⟨rfl, b⟩
    have B1 := Lib.hid b
    clear b
    go_wp2_with fail
    refine (HRP.out _).mono ?_
    rintro e w2 ⟨rfl, b⟩
    have B2 := Lib.hid (B1.out.trans (b.mono B1.out.size))
    clear b B1
    go_wp2_with fail
    refine (HP1.out _ (HS.out.below B2.out)).mono ?_
    rintro e w3 ⟨rfl, b⟩
    have C3 := Lib.hid (B2.out.trans (b.mono B2.out.size))
    clear b B2
    go_upto_region 5 with fail
    have D3 := Lib.hid (C3.out.alloc C3.out.size (ratO ta tb))
    have X3 := Lib.hid (BxR.new w3 ta tb)
    have hbl := (Below.refl w3.heap.size w3).alloc (Nat.le_refl _) (ratO ta tb)
    obtain ⟨g3, hg⟩ : ∃ g, g = w3.heap.size := ⟨_, rfl⟩
    obtain ⟨V3, hV⟩ : ∃ V, V = w3.alloc (ratO ta tb) := ⟨_, rfl⟩
    rw [← hg] at X3
    rw [← hV] at D3 X3 ⊢
    (try rw [← hg])
    clear hg hV hbl C3
    go_wp2_with fail
    refine (HP2.out _ (HS.out.below D3.out)).mono ?_
    rintro e w4 ⟨rfl, b⟩
    have C4 := Lib.hid (D3.out.trans (b.mono D3.out.size))
    have X3_ := Lib.hid (X3.out.below b)
    clear X3
    have X3 := X3_
    clear X3_
    clear b D3
    go_upto_region 6 with fail
    have D4 := Lib.hid (C4.out.alloc C4.out.size (ratO sa sb))
    have X4 := Lib.hid (BxR.new w4 sa sb)
    have hbl := (Below.refl w4.heap.size w4).alloc (Nat.le_refl _) (ratO sa sb)
    have X3_ := Lib.hid (X3.out.below hbl)
    clear X3
    have X3 := X3_
    clear X3_
    obtain ⟨g4, hg⟩ : ∃ g, g = w4.heap.size := ⟨_, rfl⟩
    obtain ⟨V4, hV⟩ : ∃ V, V = w4.alloc (ratO sa sb) := ⟨_, rfl⟩
    rw [← hg] at X4
    rw [← hV] at D4 X4 X3 ⊢
    (try rw [← hg])
    clear hg hV hbl C4
    go_wp2_with fail
    refine (HR1.out _ (HS.out.below D4.out).std).mono ?_
    rintro e w5 ⟨rfl, b⟩
    have C5 := Lib.hid (D4.out.trans (b.mono D4.out.size))
    have X3_ := Lib.hid (X3.out.below b)
    clear X3
    have X3 := X3_
    clear X3_
    have X4_ := Lib.hid (X4.out.below b)
    clear X4
    have X4 := X4_
    clear X4_
    clear b D4
    go_upto_region 7 with fail
    have D5 := Lib.hid (C5.out.alloc C5.out.size (ratO ta tb))
    have X5 := Lib.hid (BxR.new w5 ta tb)
    have hbl := (Below.refl w5.heap.size w5).alloc (Nat.le_refl _) (ratO ta tb)
    have X3_ := Lib.hid (X3.out.below hbl)
    clear X3
    have X3 := X3_
    clear X3_
    have X4_ := Lib.hid (X4.out.below hbl)
    clear X4
    have X4 := X4_
    clear X4_
    obtain ⟨g5, hg⟩ : ∃ g, g = w5.heap.size := ⟨_, rfl⟩
    obtain ⟨V5, hV⟩ : ∃ V, V = w5.alloc (ratO ta tb) := ⟨_, rfl⟩
    rw [← hg] at X5
    rw [← hV] at D5 X5 X3 X4 ⊢
    (try rw [← hg])
    clear hg hV hbl C5
    go_wp2_with fail
    refine (HR2.out _ (HS.out.below D5.out).std).mono ?_
    rintro e w6 ⟨rfl, b⟩
    have C6 := Lib.hid (D5.out.trans (b.mono D5.out.size))
    have X3_ := Lib.hid (X3.out.below b)
    clear X3
    have X3 := X3_
    clear X3_
    have X4_ := Lib.hid (X4.out.below b)
    clear X4
    have X4 := X4_
    clear X4_
    have X5_ := Lib.hid (X5.out.below b)
    clear X5
    have X5 := X5_
    clear X5_
    clear b D5
    go_upto_region 8 with fail
    have D6 := Lib.hid (C6.out.alloc C6.out.size (ratO sa sb))
    have X6 := Lib.hid (BxR.new w6 sa sb)
    have hbl := (Below.refl w6.heap.size w6).alloc (Nat.le_refl _) (ratO sa sb)
    have X3_ := Lib.hid (X3.out.below hbl)
    clear X3
    have X3 := X3_
    clear X3_
    have X4_ := Lib.hid (X4.out.below hbl)
    clear X4
    have X4 := X4_
    clear X4_
    have X5_ := Lib.hid (X5.out.below hbl)
    clear X5
    have X5 := X5_
    clear X5_
    obtain ⟨g6, hg⟩ : ∃ g, g = w6.heap.size := ⟨_, rfl⟩
    obtain ⟨V6, hV⟩ : ∃ V, V = w6.alloc (ratO sa sb) := ⟨_, rfl⟩
    rw [← hg] at X6
    rw [← hV] at D6 X6 X3 X4 X5 ⊢
    (try rw [← hg])
    clear hg hV hbl C6
    have c0 := X3.out.num
    have d0 := X3.out.den
    have c1 := X4.out.num
    have d1 := X4.out.den
    have c2 := X5.out.num
    have d2 := X5.out.den
    have c3 := X6.out.num
    have d3 := X6.out.den
    go_wp2_with fail
    go_ret
    exact ⟨rfl, D6.out⟩
end Go.Proofs.YtdgbplppabalgaaGreatDoor
