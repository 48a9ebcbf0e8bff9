/-
  CheckAll.
-/
import Derived.Test.YtgcddiakdmddjaaDoorWKnown
namespace Go.Proofs.YtgcddiakdmddjaaDoor
open Go.RowKit

/-- a row among rows -/
structure Ent where
  a : Option Addr
  n : Nat
  cap : Nat
  zs : List Int
def Ent.v (e : Ent) : Value := .slice e.a e.n e.cap
/-- a slice of rows that reads as a list -/
def RdM (w : World) (A : Option Addr) (N C : Nat) (es : List Ent) : Prop :=
  es.length = N ∧ N ≤ C ∧ C ≤ maxLen ∧ (∀ i (h : i < es.length), Rd w (es[i]'h).a (es[i]'h).n (es[i]'h).cap (es[i]'h).zs) ∧
  (es = [] ∨ ∃ b off, A = some ⟨b, off, none⟩ ∧ b < w.heap.size ∧ ∀ i (h : i < es.length), w.cell? ⟨b, off + i, none⟩ = some (.slice (es[i]'h).a (es[i]'h).n (es[i]'h).cap))
theorem RdM.below {w w' : World} {A : Option Addr} {N C : Nat} {es : List Ent} (h : RdM w A N C es) (hb : Below w.heap.size w w') : RdM w' A N C es := by
  obtain ⟨h1, h2, h3, h4, h5⟩ := h
  refine ⟨h1, h2, h3, fun i hi => (h4 i hi).below hb, ?_⟩
  rcases h5 with h5 | ⟨b, off, e, hlt, hc⟩
  · exact .inl h5
  · exact .inr ⟨b, off, e, Nat.lt_of_lt_of_le hlt hb.size, fun i hi => by rw [hb.cell (p := ⟨b, off + i, none⟩) hlt]; exact hc i hi⟩
theorem RdM.cap {w : World} {A : Option Addr} {N C : Nat} {es : List Ent} (h : RdM w A N C es) : N ≤ C ∧ C ≤ 9223372036854775807 := by
  have := h.2.2.1; unfold maxLen at this; exact ⟨h.2.1, this⟩

/-- the error of rows of one length -/
def allE (L : Int) : List Ent → Int
  | [] => 0
  | e :: es => if okB e.zs = true then (if (e.n : Int) = L then allE L es else 5) else 4
theorem allE_drop {L : Int} {es : List Ent} {k : Nat} (hk : k < es.length) : allE L (es.drop k) = if okB (es[k]).zs = true then (if ((es[k]).n : Int) = L then allE L (es.drop (k + 1)) else 5) else 4 := by
  rw [List.drop_eq_getElem_cons hk]; rfl

set_option maxHeartbeats 800000 in
theorem checkAll_any (A : Option Addr) (N C : Nat) (es : List Ent) (L : Int) (w : World) (h : RdM w A N C es) :
    Calls Tryd.prog 14 #[.slice A N C, .int .i64 L] w fun e w' => e = .returned (.int .i64 (allE L es)) ∧ w = w' := by
  have hc := h.cap
  obtain ⟨hl, -, -, hr, hw⟩ := h
  rcases hw with rfl | ⟨b, off, rfl, hb, hcell⟩
  · obtain rfl : N = 0 := hl.symm
    clear hr hl
    go_enter Tryd.func14, Tryd.ntmps14
    go_wp2_with fail
    refine wp_loop_rounds 1 ?_
    rw [rounds_succ]
    go_wp2_with fail
    go_ret
    exact ⟨rfl, rfl⟩
  · have HL := Lib.hid hl
    have HX := Lib.hid hcell
    have HR := Lib.hid hr
    clear hl hcell hr
    go_enter Tryd.func14, Tryd.ntmps14
    go_wp2_with fail
    go_loop [6, 7, 10] (fun _ _ iv => ∃ k : Nat, iv = .int .i64 k ∧ k ≤ N ∧ Hid (allE L es = allE L (es.drop k))) (fun _ _ iv => N - (intOf iv).toNat)
    case atStart => exact ⟨0, rfl, Nat.zero_le _, by simp [Hid]⟩
    case round =>
      obtain ⟨k, rfl, hk, HA⟩ := hrel
      by_cases hlt : k < N
      · have hkl : k < es.length := by rw [HL.out]; exact hlt
        have hcl := HX.out k hkl
        have hrd := HR.out k hkl
        have HD := Lib.hid (allE_drop (L := L) hkl)
        obtain ⟨⟨ea, en, ec, ez⟩, he⟩ : ∃ e, e = es[k] := ⟨_, rfl⟩
        rw [← he] at hcl hrd HD
        have hec := hrd.cap
        have hck := checkN_any ea en ec ez w hrd
        clear he hrd
        cases ok : okB ez with
        | false =>
          rw [errR_no ok] at hck
          have HC := Lib.hid hck
          have HE := Lib.hid (show allE L es = 4 by rw [HA.out, HD.out, if_neg (by simp [ok])])
          clear ok hck
          go_wp2_with fail
          refine HC.out.mono ?_
          rintro e w' ⟨rfl, rfl⟩
          go_wp2_with fail
          go_ret
          exact ⟨ret_int HE.out.symm, rfl⟩
        | true =>
          rw [errR_ok ok] at hck
          have HC := Lib.hid hck
          clear hck
          by_cases hn : (en : Int) = L
          · have HE := Lib.hid (show allE L es = allE L (es.drop (k + 1)) by rw [HA.out, HD.out, if_pos ok, if_pos hn])
            subst hn
            clear ok
            go_wp2_with fail
            refine HC.out.mono ?_
            rintro e w' ⟨rfl, rfl⟩
            go_wp2_with fail
            go_round
            case rel => exact ⟨k + 1, by go_num, by omega, HE⟩
            case measure => simp [intOf]; omega
          · have HE := Lib.hid (show allE L es = 5 by rw [HA.out, HD.out, if_pos ok, if_neg hn])
            have hne : ((en : Int) != L) = true := by simpa using hn
            clear ok hn
            go_wp2_with fail
            refine HC.out.mono ?_
            rintro e w' ⟨rfl, rfl⟩
            go_wp2_with fail
            go_ret
            exact ⟨ret_int HE.out.symm, rfl⟩
      · obtain rfl : k = N := by omega
        have HE := Lib.hid (show allE L es = 0 by rw [HA.out, List.drop_eq_nil_of_le (by rw [HL.out]; omega)]; rfl)
        go_wp2_with fail
        go_ret
        exact ⟨ret_int HE.out.symm, rfl⟩

/-- rows that lie in a literal -/
theorem RdM.lit (w : World) (es : List Ent) (cs : Array Value) (T : TypeId) (hcs : cs = (es.map Ent.v).toArray) (hr : ∀ i (h : i < es.length), Rd w (es[i]'h).a (es[i]'h).n (es[i]'h).cap (es[i]'h).zs) (hl : es.length ≤ 1000) : RdM (w.alloc (.cells cs T)) (some ⟨w.heap.size, 0, none⟩) es.length es.length es := by
  refine ⟨rfl, Nat.le_refl _, by unfold maxLen; omega, fun i hi => (hr i hi).below (below_alloc _), .inr ⟨w.heap.size, 0, rfl, by simp, fun i hi => ?_⟩⟩
  rw [Nat.zero_add, World.cell?_alloc_new, hcs, List.getElem?_toArray, List.getElem?_map, List.getElem?_eq_getElem hi]; rfl
end Go.Proofs.YtgcddiakdmddjaaDoor
