/-
  Primitive, Normal.
-/
import Derived.Test.YtkpaopfdnfgjeaaGreatDoorWPrim
namespace Go.Proofs.YtkpaopfdnfgjeaaGreatDoor
open Go.RowKit

def primV (zs : List Int) : List Int := if okB zs = true then (if zeroB zs = true then [] else zs.map (fun z => z.tdiv (gcdL zs : Int))) else []
def primE (zs : List Int) : Int := if okB zs = true then (if zeroB zs = true then 17 else 0) else 4
theorem tdiv_bd (z : Int) (c : Nat) (h1 : -1000000000 ≤ z) (h2 : z ≤ 1000000000) : -1000000000 ≤ z.tdiv (c : Int) ∧ z.tdiv (c : Int) ≤ 1000000000 := by
  have h := Int.natAbs_tdiv z (c : Int)
  have h3 : (z.tdiv (c : Int)).natAbs ≤ z.natAbs := by rw [h]; exact Nat.div_le_self _ _
  omega
theorem quo_bd {zs : List Int} {c : Nat} (ok : okB zs = true) : ∀ z ∈ zs.map (fun z => z.tdiv (c : Int)), -9223372036854775808 ≤ z ∧ z ≤ 9223372036854775807 := by
  intro z hz
  obtain ⟨y, hy, rfl⟩ := List.mem_map.1 hz
  have h := okB_ent ok hy
  have := tdiv_bd y c h.1 h.2
  show _ ≤ y.tdiv (c : Int) ∧ y.tdiv (c : Int) ≤ _
  omega

set_option maxHeartbeats 1600000 in
set_option maxRecDepth 100000 in
theorem primN_any (a : Option Addr) (n cap : Nat) (zs : List Int) (w : World) (h : Rd w a n cap zs) :
    Calls Tryz.prog 13 #[.slice a n cap] w (RowPost (primV zs) (primE zs) w) := by
  have hcn := contentN_any a n cap zs w h
  have hc := h.cap
  have hl := h.len
  cases ok : okB zs with
  | false =>
    have hv : contV zs = 0 := if_neg (by simp [ok])
    rw [hv, errR_no ok] at hcn
    have HC := Lib.hid hcn
    have HV := Lib.hid (show primV zs = [] ∧ primE zs = 4 by unfold primV primE; rw [if_neg (by simp [ok]), if_neg (by simp [ok])]; exact ⟨rfl, rfl⟩)
    clear ok h hl hcn hv
    go_enter Tryz.func13, Tryz.ntmps13
    go_wp2_with fail
    refine HC.out.mono ?_
    rintro e w1 ⟨rfl, hb1⟩
    have HB1 := Lib.hid hb1
    clear hb1
    go_wp2_with fail
    go_ret2
    rw [HV.out.1, HV.out.2]
    exact .mk (Rd.nil _) HB1.out
  | true =>
    have hv : contV zs = (gcdL zs : Int) := if_pos ok
    rw [hv, errR_ok ok] at hcn
    cases oz : zeroB zs with
    | true =>
      rw [gcdL_zero.2 oz] at hcn
      have HC := Lib.hid hcn
      have HV := Lib.hid (show primV zs = [] ∧ primE zs = 17 by unfold primV primE; rw [if_pos ok, if_pos oz, if_pos ok, if_pos oz]; exact ⟨rfl, rfl⟩)
      clear ok h hl hcn hv oz
      go_enter Tryz.func13, Tryz.ntmps13
      go_wp2_with fail
      refine HC.out.mono ?_
      rintro e w1 ⟨rfl, hb1⟩
      have HB1 := Lib.hid hb1
      clear hb1
      go_wp2_with fail
      go_ret2
      rw [HV.out.1, HV.out.2]
      exact .mk (Rd.nil _) HB1.out
    | false =>
      have hg0 : gcdL zs ≠ 0 := fun e => by rw [gcdL_zero.1 e] at oz; cases oz
      obtain ⟨c, hcc⟩ : ∃ c, c = gcdL zs := ⟨_, rfl⟩
      have HV := Lib.hid (show primV zs = zs.map (fun z => z.tdiv (c : Int)) ∧ primE zs = 0 by unfold primV primE; rw [if_pos ok, if_neg (by simp [oz]), if_pos ok, if_neg (by simp [oz]), hcc]; exact ⟨rfl, rfl⟩)
      rw [← hcc] at hcn hg0
      have HC := Lib.hid hcn
      have h64 : n ≤ 64 := by rw [← hl]; exact okB_len ok
      obtain ⟨i0, hi, hz0, hz1, hz2⟩ := info_parts infoI
      obtain ⟨b, off, rfl, hbw, hcell⟩ : ∃ b off, a = some ⟨b, off, none⟩ ∧ b < w.heap.size ∧ ∀ i (h : i < zs.length), w.cell? ⟨b, off + i, none⟩ = some (.int .i64 (zs[i]'h)) := by
        rcases h.ways with ⟨e, _⟩ | h2
        · exact absurd e (zeroB_ne oz)
        · exact h2
      have HX := Lib.hid hcell
      have HOK := Lib.hid ok
      have HL := Lib.hid hl
      have HBD := Lib.hid (quo_bd (c := c) ok)
      have hcz : ((c : Int) == 0) = false := by rw [beq_eq_false_iff_ne]; omega
      have hcz2 : (c : Int) ≠ 0 := by omega
      clear ok oz h hl hcell hcn hv hcc hg0
      go_enter Tryz.func13, Tryz.ntmps13
      go_wp2_with fail
      refine HC.out.mono ?_
      rintro e w1 ⟨rfl, hb1⟩
      have hs1 := hb1.size
      have HB1 := Lib.hid hb1
      clear hb1
      go_wp2_with (at_make; refine wpList_make_full _ rfl _ _ 23 rfl w1.heap.size 3 i0 (.int .i64 0) 1 Tryz.underlying23 hi hz0 hz1 .i64 .i64 _ _ n rfl rfl (by omega) (by omega) (by rw [hz2]; omega) (by unfold maxLen; omega) (Nat.le_refl _) ?_; intro w0 hown0 hgrow0)
      have hbel0 : Below w.heap.size w w0 := HB1.out.trans (((Below.refl _ _).grown hgrow0 (Nat.le_refl _) (by intro k hk; cases hk)).mono hs1)
      have HR0 := Lib.hid (RowI.made hown0)
      have HB0 := Lib.hid hbel0
      clear hown0 hgrow0 hbel0
      go_wp2_with fail
      go_loopw [7, 8, 24] (fun _ _ iv wr => ∃ i : Nat, iv = .int .i64 i ∧ i ≤ n ∧ RowI wr w1.heap.size w1.heap.size n (part (fun z => z.tdiv (c : Int)) zs n i) ∧ Below w.heap.size w wr) (fun _ _ iv _ => n - (intOf iv).toNat)
      case atStart => exact ⟨0, rfl, Nat.zero_le _, by rw [part_zero]; exact HR0.out, HB0.out⟩
      case round =>
        obtain ⟨i, rfl, hi2, hrow, hbel⟩ := hrel
        have hpl := part_len (fun z => z.tdiv (c : Int)) zs HL.out hi2
        by_cases hlt : i < n
        · have hil : i < zs.length := by rw [HL.out]; exact hlt
          have hcl : wr.cell? ⟨b, off + i, none⟩ = some (.int .i64 (zs[i]'hil)) := (hbel.cell (p := ⟨b, off + i, none⟩) hbw).trans (HX.out i hil)
          have hset := hrow.set i (zs[i].tdiv (c : Int))
          rw [part_set (fun z => z.tdiv (c : Int)) zs HL.out hil] at hset
          have hcl2 := hrow.cell i (by omega)
          obtain ⟨old, hold⟩ : ∃ old, old = (part (fun z => z.tdiv (c : Int)) zs n i)[i]'(by omega) := ⟨_, rfl⟩
          rw [← hold] at hcl2
          have hfr := hrow.free i
          have hze := okB_at HOK.out i hil
          obtain ⟨z, hz⟩ : ∃ z, z = zs[i] := ⟨_, rfl⟩
          rw [← hz] at hcl hset hze
          have hpr := tdiv_bd z c hze.1 hze.2
          obtain ⟨q, hq⟩ : ∃ q, q = z.tdiv (c : Int) := ⟨_, rfl⟩
          rw [← hq] at hset hpr
          have hq' : z.tdiv (c : Int) = q := hq.symm
          have hwr := in64 (x := q) (by omega) (by omega)
          have HSET := Lib.hid hset
          have HB2 := Lib.hid (hbel.setCell (p := ⟨w1.heap.size, i, none⟩) hs1 (.int .i64 q))
          clear hrow hbel hset hold hz hpl hq
          go_wp2_with fail
          go_roundw
          case rel => exact ⟨i + 1, by go_num, by omega, HSET.out, HB2.out⟩
          case measure => simp [intOf]; omega
        · obtain rfl : i = n := by omega
          rw [part_all _ _ HL.out] at hrow
          have hml : (zs.map (fun z => z.tdiv (c : Int))).length = i := by rw [List.length_map]; exact HL.out
          have hrd := hrow.rd HBD.out
          rw [hml] at hrd
          have HRD := Lib.hid hrd
          have HB1 := Lib.hid hbel
          clear hrow hbel hml hrd hpl
          go_wp2_with fail
          go_ret2
          rw [HV.out.1, HV.out.2]
          exact .mk HRD.out HB1.out

/-- the sign of a row -/
def sgnL : List Int → Int
  | [] => 1
  | z :: l => if z < 0 then -1 else if 0 < z then 1 else sgnL l
theorem sgnL_zero {l : List Int} (h : zeroB l = true) : sgnL l = 1 := by
  rw [zeroB_all h]
  generalize l.length = n
  induction n with
  | zero => rfl
  | succ n ih => rw [List.replicate_succ]; show (if (0 : Int) < 0 then -1 else if (0 : Int) < 0 then 1 else sgnL _) = 1; rw [if_neg (by decide), if_neg (by decide)]; exact ih
theorem sgnL_app {l : List Int} (h : l.all (fun z => z == 0) = true) (m : List Int) : sgnL (l ++ m) = sgnL m := by
  induction l with
  | nil => rfl
  | cons x l ih =>
    simp only [List.all_cons, Bool.and_eq_true] at h
    obtain ⟨h1, h2⟩ := h
    have h1 : x = 0 := by simpa using h1
    subst h1
    show (if (0 : Int) < 0 then -1 else if (0 : Int) < 0 then 1 else sgnL (l ++ m)) = _
    rw [if_neg (by decide), if_neg (by decide)]; exact ih h2
theorem sgnL_at {l : List Int} {k : Nat} (hk : k < l.length) (h : (l.take k).all (fun z => z == 0) = true) (hz : l[k] ≠ 0) : sgnL l = Lib.compareInt l[k] 0 := by
  have e : l = l.take k ++ l[k] :: l.drop (k + 1) := by rw [← List.drop_eq_getElem_cons hk, List.take_append_drop]
  obtain ⟨z, hzz⟩ : ∃ z, z = l[k] := ⟨_, rfl⟩
  rw [← hzz] at hz e ⊢
  rw [e, sgnL_app h]
  show (if z < 0 then -1 else if 0 < z then 1 else _) = _
  unfold Lib.compareInt
  by_cases h1 : z < 0
  · rw [if_pos h1, if_pos h1]
  · rw [if_neg h1, if_neg h1, if_pos (by omega), if_pos (by omega)]

end Go.Proofs.YtkpaopfdnfgjeaaGreatDoor
