/-
  The reference's Combine.
-/
import Derived.Test.YtgcddiakdmddjaaDoorWAll
import Derived.Test.YtgcddiakdmddjaaDoorWPlus
import Derived.Test.YtgcddiakdmddjaaDoorWRefSum
import Derived.StillTailTactics
namespace Go.Proofs.YtgcddiakdmddjaaDoor
open Go.RowKit

theorem cell_lt {w : World} {b o : Nat} {v : Value} (h : w.cell? ⟨b, o, none⟩ = some v) : b < w.heap.size := by
  apply Nat.lt_of_not_le; intro hle
  unfold World.cell? at h
  simp only [Array.getElem?_eq_none hle] at h; simp at h
theorem two_set {W : World} {B : Nat} {u l : Value} (u' l' : Value) (h1 : W.cell? ⟨B, 0, none⟩ = some u) (h2 : W.cell? ⟨B, 1, none⟩ = some l) (h3 : W.frozen? ⟨B, 0, none⟩ = false) (h4 : W.frozen? ⟨B, 1, none⟩ = false) :
    ((W.setCell ⟨B, 0, none⟩ u').setCell ⟨B, 1, none⟩ l').cell? ⟨B, 0, none⟩ = some u' ∧ ((W.setCell ⟨B, 0, none⟩ u').setCell ⟨B, 1, none⟩ l').cell? ⟨B, 1, none⟩ = some l' ∧ ((W.setCell ⟨B, 0, none⟩ u').setCell ⟨B, 1, none⟩ l').frozen? ⟨B, 0, none⟩ = false ∧ ((W.setCell ⟨B, 0, none⟩ u').setCell ⟨B, 1, none⟩ l').frozen? ⟨B, 1, none⟩ = false := by
  refine ⟨?_, ?_, ?_, ?_⟩
  · refine (World.cell?_setCell_other (w := W.setCell ⟨B, 0, none⟩ u') (a := ⟨B, 1, none⟩) (b := ⟨B, 0, none⟩) (v := l') (fun e => by cases e)).trans ?_
    exact World.cell?_setCell_same' _ _ _ (by rw [h1]; rfl)
  · refine World.cell?_setCell_same' _ _ _ ?_
    have h2' := (World.cell?_setCell_other (w := W) (a := ⟨B, 0, none⟩) (b := ⟨B, 1, none⟩) (v := u') (fun e => by cases e)).trans h2
    rw [h2']; rfl
  · rw [World.frozen?_setCell, World.frozen?_setCell]; exact h3
  · rw [World.frozen?_setCell, World.frozen?_setCell]; exact h4
/-- the element of a row among rows -/
def at2 (es : List Ent) (k i : Nat) : Int := match es[k]? with | some e => e.zs[i]?.getD 0 | none => 0
def col (es : List Ent) (fs : List Int) (i : Nat) : Int := sumTo (fun k => at2 es k i * fs[k]?.getD 0) es.length
def cols (es : List Ent) (fs : List Int) (L : Nat) : List Int := (List.range L).map (col es fs)
theorem cols_take (es : List Ent) (fs : List Int) {L i : Nat} (hi : i ≤ L) : (cols es fs L).take i = cols es fs i := by
  unfold cols; rw [← List.map_take, List.take_range, Nat.min_eq_left hi]
theorem cols_succ (es : List Ent) (fs : List Int) (i : Nat) : cols es fs (i + 1) = cols es fs i ++ [col es fs i] := by
  unfold cols; rw [List.range_succ]; simp
theorem cols_len (es : List Ent) (fs : List Int) (L : Nat) : (cols es fs L).length = L := by simp [cols]

theorem own_kept {w w' : World} {base size n : Nat} {e : TypeId} {v : Value} {xs : List Value} (h : w.ownsRow base e size v n xs) (hb : Below w.heap.size w w') : w'.ownsRow base e size v n xs := by
  refine World.ownsRow.kept (row := none) h ⟨hb.os, hb.tape, hb.output, hb.size, fun j hj _ => hb.block j hj⟩ ?_
  cases hv : v.ownBlock with
  | none => exact .inl rfl
  | some g => exact .inr (by simp)
theorem own_someI {w : World} {B : Nat} {e : TypeId} {v : Value} {n : Nat} {xs : List Value} (h : w.ownsRow B e 1 v n xs) (hn : 0 < n) : ∃ g cap, v = .slice (some ⟨g, 0, none⟩) n cap := by
  rcases h.2 with ⟨_, h0⟩ | ⟨g, cap, cur, hv, _⟩
  · omega
  · exact ⟨g, cap, hv⟩
/-- right rows of one length -/
structure RowsOk (es : List Ent) (L : Nat) : Prop where
  ok : ∀ i (h : i < es.length), okB (es[i]'h).zs = true
  len : ∀ i (h : i < es.length), (es[i]'h).n = L
/-- what Combine answers -/
def CombPost (V : List Int) (ok : Bool) (w : World) (e : Ending) (w' : World) : Prop := ∃ a n cap, e = .returned (.tuple #[.slice a n cap, .bool ok]) ∧ Rd w' a n cap (if ok = true then V else []) ∧ Below w.heap.size w w'
theorem CombPost.yes {V : List Int} {w w' : World} {a : Option Addr} {n cap : Nat} (h : Rd w' a n cap V) (hb : Below w.heap.size w w') : CombPost V true w (.returned (.tuple #[.slice a n cap, .bool true])) w' := ⟨a, n, cap, rfl, h, hb⟩
theorem CombPost.no {V : List Int} {w w' : World} (hb : Below w.heap.size w w') : CombPost V false w (.returned (.tuple #[.slice none 0 0, .bool false])) w' := ⟨none, 0, 0, rfl, Rd.nil _, hb⟩
theorem all_cols_succ {es : List Ent} {fs : List Int} {L i : Nat} (hi : i < L) (h : entB (col es fs i) = false) : (cols es fs L).all entB = false := by
  refine all_false_at (k := i) (by rw [cols_len]; exact hi) ?_
  unfold cols; simpa using h

set_option maxHeartbeats 3200000 in
set_option maxRecDepth 100000 in
theorem combR_any (A : Option Addr) (N C : Nat) (es : List Ent) (L : Nat) (fa : Option Addr) (fn fc : Nat) (fs : List Int) (w : World) (h : RdM w A N C es) (hf : Rd w fa fn fc fs) (hes : RowsOk es L) (hfs : okB fs = true) (hN : 0 < N) (hfn : N ≤ fn) (hL : L ≤ 64) :
    Calls Tryd.prog 33 #[.slice A N C, .slice fa fn fc] w (CombPost (cols es fs L) ((cols es fs L).all entB) w) := by
  have hc := h.cap
  have hcf := hf.cap
  have hfl := hf.len
  have hN64 : N ≤ 64 := by have := okB_len hfs; omega
  obtain ⟨i0, hi, hz0, hz1, hz2⟩ := info_parts infoI
  obtain ⟨hl, -, -, hr, hw⟩ := h
  obtain ⟨b, off, rfl, hb, hcell⟩ : ∃ b off, A = some ⟨b, off, none⟩ ∧ b < w.heap.size ∧ ∀ i (h : i < es.length), w.cell? ⟨b, off + i, none⟩ = some (.slice (es[i]'h).a (es[i]'h).n (es[i]'h).cap) := by
    rcases hw with rfl | hw
    · simp at hl; omega
    · exact hw
  obtain ⟨fb, foff, rfl, hfb, hfcell⟩ : ∃ b off, fa = some ⟨b, off, none⟩ ∧ b < w.heap.size ∧ ∀ i (h : i < fs.length), w.cell? ⟨b, off + i, none⟩ = some (.int .i64 (fs[i]'h)) := by
    rcases hf.ways with ⟨_, h0⟩ | h0
    · omega
    · exact h0
  have HX := Lib.hid hcell
  have HF := Lib.hid hfcell
  have HR := Lib.hid hr
  have HL := Lib.hid hl
  have HFL := Lib.hid hfl
  have HES := Lib.hid hes
  have HFS := Lib.hid hfs
  have hl0 : 0 < es.length := by omega
  obtain ⟨e0, he0⟩ : ∃ e0, e0 = es[0] := ⟨_, rfl⟩
  have hn0 : e0.n = L := by rw [he0]; exact hes.len 0 hl0
  have hc0 : w.cell? ⟨b, off, none⟩ = some (.slice e0.a L e0.cap) := by rw [← hn0, he0]; exact hcell 0 hl0
  have HC0 := Lib.hid hc0
  clear hcell hfcell hr hl hfl hes hfs hf hw hl0 he0 hn0 hc0
  go_enter Tryd.func33, Tryd.ntmps33
  go_wp2_with fail
  go_loopw [6, 7, 8, 9, 10, 11] (fun v iv _ _ _ _ wr => ∃ (i : Nat) (vo : Option Addr) (vc : Nat), iv = .int .i64 i ∧ i ≤ L ∧ v = .slice vo i vc ∧ Hid ((cols es fs i).all entB = true) ∧ wr.ownsRow w.heap.size 3 1 (.slice vo i vc) i (ci (cols es fs i)) ∧ Below w.heap.size w wr) (fun _ iv _ _ _ _ _ => L - (intOf iv).toNat)
  case atStart => exact ⟨0, none, 0, rfl, Nat.zero_le _, rfl, Lib.hid rfl, World.ownsRow_nil _ _ _ _, Below.refl _ _⟩
  case round =>
    obtain ⟨i, vo, vc, rfl, hiL, rfl, HA, hown, hbel⟩ := hrel
    have HO := Lib.hid hown
    have HBL := Lib.hid hbel
    have hc0 : wr.cell? ⟨b, off, none⟩ = some (.slice e0.a L e0.cap) := (hbel.cell (p := ⟨b, off, none⟩) hb).trans HC0.out
    clear hown hbel
    by_cases hlt : i < L
    · obtain ⟨wo, rfl⟩ : ∃ wo : World, wo = wr := ⟨_, rfl⟩
      have hbs := HBL.out.size
      have HBO := Lib.hid (show Below w.heap.size w wo from HBL.out)
      go_wp2_with fail
      go_loopw [9] (fun kv wr => ∃ (k : Nat) (U Lo : Int), kv = .int .i64 k ∧ k ≤ N ∧ wr.cell? ⟨wo.heap.size, 0, none⟩ = some (.int .i64 U) ∧ wr.cell? ⟨wo.heap.size, 1, none⟩ = some (.int .i64 Lo) ∧ wr.frozen? ⟨wo.heap.size, 0, none⟩ = false ∧ wr.frozen? ⟨wo.heap.size, 1, none⟩ = false ∧ Hid (U * 1000000000 + Lo = sumTo (fun k => at2 es k i * fs[k]?.getD 0) k ∧ -(1000000000 * (k : Int)) ≤ U ∧ U ≤ 1000000000 * (k : Int) ∧ -(1000000000 * (k : Int)) ≤ Lo ∧ Lo ≤ 1000000000 * (k : Int)) ∧ Below wo.heap.size wo wr) (fun kv _ => N - (intOf kv).toNat)
      case atStart => exact ⟨0, 0, 0, rfl, Nat.zero_le _, by rw [World.cell?_alloc_new]; rfl, by rw [World.cell?_alloc_new]; rfl, World.frozen?_alloc_new _ _ _ _, World.frozen?_alloc_new _ _ _ _, Lib.hid ⟨rfl, by simp, by simp, by simp, by simp⟩, below_alloc _⟩
      case round =>
        obtain ⟨k, U, Lo, rfl, hkN, h1, h2, h3, h4, HS, hbel2⟩ := hrel
        have HB2 := Lib.hid hbel2
        have hbw : Below w.heap.size w wr := HBL.out.trans (hbel2.mono hbs)
        have hsz2 := hbel2.size
        have hlt2 : wo.heap.size < wr.heap.size := cell_lt h1
        by_cases hk : k < N
        · have hke : k < es.length := by rw [HL.out]; exact hk
          have hkf : k < fs.length := by rw [HFL.out]; omega
          have hcl := (hbw.cell (p := ⟨b, off + k, none⟩) hb).trans (HX.out k hke)
          have hcf2 := (hbw.cell (p := ⟨fb, foff + k, none⟩) hfb).trans (HF.out k hkf)
          have hrd := HR.out k hke
          have hen := HES.out.len k hke
          have heo := HES.out.ok k hke
          have hAt : at2 es k i = (es[k]).zs[i]?.getD 0 := by unfold at2; rw [List.getElem?_eq_getElem hke]
          obtain ⟨⟨ea, en, ec, ez⟩, he⟩ : ∃ e, e = es[k] := ⟨_, rfl⟩
          rw [← he] at hcl hrd hen heo hAt
          obtain rfl : en = L := hen
          have hiz : i < ez.length := by rw [hrd.len]; exact hlt
          obtain ⟨zb, zoff, rfl, hzb, hzc⟩ : ∃ b off, ea = some ⟨b, off, none⟩ ∧ b < w.heap.size ∧ ∀ i (h : i < ez.length), w.cell? ⟨b, off + i, none⟩ = some (.int .i64 (ez[i]'h)) := by
            rcases hrd.ways with ⟨e, _⟩ | h2
            · have e' : ez = [] := e
              rw [e'] at hiz; exact absurd hiz (Nat.not_lt_zero _)
            · exact h2
          have hcz := (hbw.cell (p := ⟨zb, zoff + i, none⟩) hzb).trans (hzc i hiz)
          have hzz := okB_at heo i hiz
          have hff := okB_at HFS.out k hkf
          simp only [List.getElem?_eq_getElem hiz, Option.getD_some] at hAt
          have hcap := hrd.cap
          obtain ⟨z, hz⟩ : ∃ z, z = ez[i] := ⟨_, rfl⟩
          obtain ⟨f, hf⟩ : ∃ f, f = fs[k] := ⟨_, rfl⟩
          rw [← hz] at hcz hzz hAt
          rw [← hf] at hcf2 hff
          obtain ⟨p1, p2⟩ := prod_bd hzz.1 hzz.2 hff.1 hff.2
          obtain ⟨q, r, hs⟩ := spl_of (z * f) p1 p2
          obtain ⟨k1, k2, k3, k4, k5⟩ := HS.out
          have HP := Lib.hid (fun wx => plusS_any U Lo z f q r wx hs (by omega) (by omega) (by omega) (by omega))
          have HN := Lib.hid (show (U + q) * 1000000000 + (Lo + r) = sumTo (fun k => at2 es k i * fs[k]?.getD 0) (k + 1) ∧ -(1000000000 * ((k + 1 : Nat) : Int)) ≤ U + q ∧ U + q ≤ 1000000000 * ((k + 1 : Nat) : Int) ∧ -(1000000000 * ((k + 1 : Nat) : Int)) ≤ Lo + r ∧ Lo + r ≤ 1000000000 * ((k + 1 : Nat) : Int) by
            obtain ⟨-, -, hv, q1, q2, r1, r2⟩ := hs
            have e : sumTo (fun k => at2 es k i * fs[k]?.getD 0) (k + 1) = sumTo (fun k => at2 es k i * fs[k]?.getD 0) k + z * f := by
              show _ + at2 es k i * fs[k]?.getD 0 = _
              rw [hAt, List.getElem?_eq_getElem hkf, Option.getD_some, ← hf]
            rw [e, ← k1, ← hv]
            omega)
          clear hrd heo hAt he hiz hzc hz hf hs k1 k2 k3 k4 k5 HS p1 p2 hbel2
          have hkfn : k < fn := by omega
          go_wp2_with fail
          go_still_tail 12, (by kernel_rfl)
          change wpList _ _ _ _ _ wr.drew
          go_wp2_with fail
          refine (HP.out _).mono ?_
          rintro e w3 ⟨rfl, hb3⟩
          have hb3' : Below wr.heap.size wr w3 := (Below.drew (Below.refl _ _)).trans hb3
          have h1' := (hb3'.cell (p := ⟨wo.heap.size, 0, none⟩) (by omega)).trans h1
          have h2' := (hb3'.cell (p := ⟨wo.heap.size, 1, none⟩) (by omega)).trans h2
          have h3' := (hb3'.frozen (p := ⟨wo.heap.size, 0, none⟩) (by omega)).trans h3
          have h4' := (hb3'.frozen (p := ⟨wo.heap.size, 1, none⟩) (by omega)).trans h4
          have HB3 := Lib.hid (HB2.out.trans (hb3'.mono hsz2))
          have HT := Lib.hid (two_set (.int .i64 (U + q)) (.int .i64 (Lo + r)) h1' h2' h3' h4')
          have HB4 := Lib.hid ((HB3.out.setCell (p := ⟨wo.heap.size, 0, none⟩) (Nat.le_refl _) (.int .i64 (U + q))).setCell (p := ⟨wo.heap.size, 1, none⟩) (Nat.le_refl _) (.int .i64 (Lo + r)))
          clear hb3 hb3' h1 h2 h3 h4
          go_wp2_with fail
          refine ⟨⟨k + 1, U + q, Lo + r, by push_cast; rfl, by omega, HT.out.1, HT.out.2.1, HT.out.2.2.1, HT.out.2.2.2, HN, HB4.out⟩, ?_⟩
          simp [intOf] <;> omega
        · obtain rfl : k = N := by omega
          obtain ⟨k1, k2, k3, k4, k5⟩ := HS.out
          have hcol : U * 1000000000 + Lo = col es fs i := by unfold col; rw [HL.out]; exact k1
          have hV := fun wx => valueS_any U Lo wx (by omega) (by omega) (by omega) (by omega)
          rw [hcol] at hV
          have HV := Lib.hid hV
          have HOW := Lib.hid (show wr.ownsRow w.heap.size 3 1 (.slice vo i vc) i (ci (cols es fs i)) from own_kept HO.out hbel2)
          have HBW := Lib.hid hbw
          clear k1 k2 k3 k4 k5 hcol hV HS hbel2 hbw
          cases he : entB (col es fs i) with
          | false =>
            rw [he] at HV
            have HE := Lib.hid (all_cols_succ hlt he)
            clear he
            go_wp2_with fail
            refine (HV.out _).mono ?_
            rintro e w3 ⟨⟨v, rfl, hv⟩, hb3⟩
            have HB3 := Lib.hid (HBW.out.trans (hb3.mono HBW.out.size))
            clear hv hb3
            go_wp2_with fail
            go_ret2
            rw [HE.out]
            exact CombPost.no HB3.out
          | true =>
            rw [he] at HV
            have HE := Lib.hid (show (cols es fs (i + 1)).all entB = true by rw [cols_succ, List.all_append, HA.out]; simp [he])
            clear he
            go_wp2_with fail
            refine (HV.out _).mono ?_
            rintro e w3 ⟨⟨v, rfl, hv⟩, hb3⟩
            obtain rfl := hv trivial
            have HB3 := Lib.hid (HBW.out.trans (hb3.mono HBW.out.size))
            have HO3 := Lib.hid (show w3.ownsRow w.heap.size 3 1 (.slice vo i vc) i (ci (cols es fs i)) from own_kept HOW.out hb3)
            have hs3 := HB3.out.size
            clear hv hb3
            go_wp2_with (at_builtin; refine wpList_append_own _ rfl _ _ 23 rfl w.heap.size 3 i0 (.int .i64 0) 1 8 Tryd.underlying23 hi hz0 hz1 hz2 rfl (by decide) _ _ _ rfl (World.ownsRow.alloc HO3.out _) ⟨w3.heap.size, 0, none⟩ 1 1 [.int .i64 (col es fs i)] rfl rfl ?c1 ?c2 ?c3 ?c4 ?c5 ?_)
            case c1 =>
              intro j u hj
              match j, hj with
              | 0, hj => simp at hj; subst hj; simp [Addr.add]
            case c2 => intro u hu; simp at hu; subst hu; rfl
            case c3 => unfold maxLen; omega
            case c4 => omega
            case c5 => simp; omega
            · intro v' w4 hown' hgrow _
              obtain ⟨g', cap', rfl⟩ := own_someI hown' (by omega)
              have HO4 := Lib.hid (show w4.ownsRow w.heap.size 3 1 (.slice (some ⟨g', 0, none⟩) (i + 1) cap') (i + 1) (ci (cols es fs (i + 1))) by rw [cols_succ, ci_append]; exact hown')
              have HB4 := Lib.hid (show Below w.heap.size w w4 from (HB3.out.alloc hs3 _).grown hgrow (by simp; omega) (by intro q hq; exact (World.ownsRow.lt HO3.out q hq).1))
              clear hown' hgrow
              go_wp2_with fail
              go_roundw
              case rel => exact ⟨i + 1, _, _, by go_num, by omega, rfl, HE, HO4.out, HB4.out⟩
              case measure => simp [intOf]; omega
    · obtain rfl : i = L := by omega
      have hown := HO.out
      obtain ⟨a2, c2, e2, hrd⟩ := Rd.of_owns hown (cols_len _ _ _) (fun z hz => by have := entB_iff.1 (List.all_eq_true.1 HA.out z hz); omega)
      cases e2
      have HRD := Lib.hid hrd
      clear hown hrd
      go_wp2_with fail
      go_ret2
      rw [HA.out]
      exact CombPost.yes HRD.out HBL.out
end Go.Proofs.YtgcddiakdmddjaaDoor
