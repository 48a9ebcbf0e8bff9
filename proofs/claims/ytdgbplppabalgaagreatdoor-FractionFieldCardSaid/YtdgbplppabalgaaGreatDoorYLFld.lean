/-
  The law FractionField.
-/
import Derived.Test.YtdgbplppabalgaaGreatDoorYLFldW
namespace Go.Proofs.YtdgbplppabalgaaGreatDoor
open Go.RowKit

theorem ways_wrap {x y : Int} (hx : x = -1 ∨ x = 0 ∨ x = 1) (hy : y = -1 ∨ y = 0 ∨ y = 1) : IntKind.i64.wrap (x * y) = x * y := by
  rcases hx with rfl | rfl | rfl <;> rcases hy with rfl | rfl | rfl <;> rfl
set_option maxRecDepth 100000 in
theorem lawField_any (px py qx qy rx ry : Int) (w : World) (hs : Stf w) (w0 : (Lit.int .i16 px).wf = true) (m0 : (Lit.int .u8 py).wf = true) (w1 : (Lit.int .i16 qx).wf = true) (m1 : (Lit.int .u8 qy).wf = true) (w2 : (Lit.int .i16 rx).wf = true) (m2 : (Lit.int .u8 ry).wf = true) :
    Calls Tryz.prog 11 #[.agg #[.int .i16 px, .int .u8 py], .agg #[.int .i16 qx, .int .u8 qy], .agg #[.int .i16 rx, .int .u8 ry]] w fun e w' => e = .returned (.bool true) ∧ Below w.heap.size w w' := by
  have bpx := bounds_i16 w0
  have bpy := bounds_u8 m0
  have bqx := bounds_i16 w1
  have bqy := bounds_u8 m1
  have brx := bounds_i16 w2
  have bry := bounds_u8 m2
  have M1 := fun wx (hw : Stf wx) => mkS_any px py wx hw.std bpx.1 bpx.2 bpy.1 bpy.2
  have M2 := fun wx (hw : Stf wx) => mkS_any qx qy wx hw.std bqx.1 bqx.2 bqy.1 bqy.2
  have M3 := fun wx (hw : Stf wx) => mkS_any rx ry wx hw.std brx.1 brx.2 bry.1 bry.2
  have hp := (smP_sz bpx.1 bpx.2 bpy.1 bpy.2).1
  have hq := (smP_sz bqx.1 bqx.2 bqy.1 bqy.2).1
  have hr := (smP_sz brx.1 brx.2 bry.1 bry.2).1
  obtain ⟨p, ep⟩ : ∃ p, p = smP px py := ⟨_, rfl⟩
  obtain ⟨q, eq⟩ : ∃ p, p = smP qx qy := ⟨_, rfl⟩
  obtain ⟨r, er⟩ : ∃ p, p = smP rx ry := ⟨_, rfl⟩
  rw [← ep] at M1 hp
  rw [← eq] at M2 hq
  rw [← er] at M3 hr
  clear ep eq er bpx bpy bqx bqy brx bry w0 m0 w1 m1 w2 m2
  have hp' := hp.mono (show 5 ≤ 11 by decide)
  have hq' := hq.mono (show 5 ≤ 11 by decide)
  have hr' := hr.mono (show 5 ≤ 11 by decide)
  have hapq : Sz 11 (addP p q) := hp.add hq (by decide)
  have haqr : Sz 11 (addP q r) := hq.add hr (by decide)
  have hapr : Sz 11 (addP p r) := hp.add hr (by decide)
  have hmpq : Sz 11 (mulP p q) := (hp.mul hq (by decide)).mono (by decide)
  have hmrq : Sz 11 (mulP r q) := (hr.mul hq (by decide)).mono (by decide)
  have hmpr : Sz 11 (mulP p r) := (hp.mul hr (by decide)).mono (by decide)
  have hmqr : Sz 11 (mulP q r) := (hq.mul hr (by decide)).mono (by decide)
  have hsub : Sz 11 (addP p (negP q)) := hp.add hq.neg (by decide)
  have e4 : mulP (mulP r q) p = mulP (mulP p q) r := by rw [mulP_comm (mulP r q) p, mulP_comm r q, ← mulP_assoc hp.fr hq.fr hr.fr]
  have A1 := fun wx (hw : Stf wx) => addP_any hp hq (by decide) wx hw.std
  have A2 := fun wx (hw : Stf wx) => addP_any hapq hr' (by decide) wx hw.std
  have A3 := fun wx (hw : Stf wx) => addP_any hq hp (by decide) wx hw.std
  rw [addP_comm q p] at A3
  have A4 := fun wx (hw : Stf wx) => addP_any hr' hapq (by decide) wx hw.std
  rw [addP_comm r (addP p q)] at A4
  have P1 := fun wx (hw : Stf wx) => mulP_any hp hq (by decide) wx hw.std
  have P2 := fun wx (hw : Stf wx) => mulP_any hmpq hr' (by decide) wx hw.std
  have P3 := fun wx (hw : Stf wx) => mulP_any hr hq (by decide) wx hw.std
  have P4 := fun wx (hw : Stf wx) => mulP_any hmrq hp' (by decide) wx hw.std
  rw [e4] at P4
  have A5 := fun wx (hw : Stf wx) => addP_any hq hr (by decide) wx hw.std
  have P5 := fun wx (hw : Stf wx) => mulP_any hp' haqr (by decide) wx hw.std
  have P6 := fun wx (hw : Stf wx) => mulP_any hp hr (by decide) wx hw.std
  have A6 := fun wx (hw : Stf wx) => addP_any hmpq hmpr (by decide) wx hw.std
  rw [← mulP_add hp.fr hq.fr hr.fr] at A6
  have S1 := fun wx (hw : Stf wx) => subP_any hp hq (by decide) wx hw.std
  have A7 := fun wx (hw : Stf wx) => addP_any hsub hq' (by decide) wx hw.std
  rw [sub_back hp.fr hq.fr] at A7
  have A8 := fun wx (hw : Stf wx) => addP_any hp hr (by decide) wx hw.std
  have P8 := fun wx (hw : Stf wx) => mulP_any hq hr (by decide) wx hw.std
  have C1 := fun wx (hw : Stf wx) => cmpP_any hp hq (by decide) wx hw.std
  have C2 := fun wx (hw : Stf wx) => cmpP_any hapr haqr (by decide) wx hw.std
  rw [cmpP_add hp.fr hq.fr hr.fr] at C2
  have C3 := fun wx (hw : Stf wx) => cmpP_any hmpr hmqr (by decide) wx hw.std
  rw [cmpP_mul hp.fr hq.fr hr.fr] at C3
  have SC := fun wx (_ : Stf wx) => signP_any hr (by decide) wx
  have hw : IntKind.i64.wrap (cmpP p q * sgnI r.1) = cmpP p q * sgnI r.1 := ways_wrap (by have h := cmpZ_ways (p.1 * (q.2 : Int)) (q.1 * (p.2 : Int)); show cmpZ _ _ = _ ∨ cmpZ _ _ = _ ∨ cmpZ _ _ = _; omega) (by have h := sgnI_ways r.1; omega)
  by_cases h0 : q.1 = 0
  · have DV := fun (wx : World) (_ : Stf wx) => divF_zero (zS p.1) (str p.2) (str q.2) wx
    rw [← h0] at DV
    have SB := fun wx (_ : Stf wx) => signP_any hq (by decide) wx
    rw [show sgnI q.1 = 0 by rw [h0]; rfl] at SB
    exact field_walk px py qx qy rx ry _ _ _ _ _ _ _ _ _ _ _ _ _ _ _ _ _ _ _ _ _ _ _ _ _ _ _ _ _ _ _ _ _ w hs hw (fun wx hw => knownF_any wx hw) M1 M2 M3 A1 A2 A3 A4 P1 P2 P3 P4 A5 P5 P6 A6 S1 A7 A8 P8 C1 C2 C3 SC DV (.inr ⟨rfl, SB⟩)
  · have DV := fun wx (hw : Stf wx) => divP_any hp hq (by decide) h0 wx hw.std
    have P7 := fun wx (hw : Stf wx) => mulP_any (hp.mul (hq.inv h0) (by decide)) (hq.mono (by decide)) (by decide) wx hw.std
    rw [div_back hp.fr hq.fr h0] at P7
    exact field_walk px py qx qy rx ry _ _ _ _ _ _ _ _ _ _ _ _ _ _ _ _ _ _ _ _ _ _ _ _ _ _ _ _ _ _ _ _ _ w hs hw (fun wx hw => knownF_any wx hw) M1 M2 M3 A1 A2 A3 A4 P1 P2 P3 P4 A5 P5 P6 A6 S1 A7 A8 P8 C1 C2 C3 SC DV (.inl ⟨rfl, P7⟩)
end Go.Proofs.YtdgbplppabalgaaGreatDoor
