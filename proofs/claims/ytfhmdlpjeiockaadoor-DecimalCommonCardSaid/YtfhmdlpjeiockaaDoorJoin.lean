/-
  The contract of join.
-/
import Derived.Test.YtfhmdlpjeiockaaDoorCut
namespace Go.Proofs.YtfhmdlpjeiockaaDoor
open Go.RowKit

/-- bytes as cells -/
def c8 (l : List UInt8) : List Value := l.map fun c : UInt8 => Value.int .u8 (c.toNat : Int)
theorem c8_len (l : List UInt8) : (c8 l).length = l.length := by simp [c8]
theorem c8_at (l : List UInt8) (i : Nat) (h : i < l.length) : (c8 l)[i]? = some (.int .u8 (((l[i]'h).toNat : Nat) : Int)) := by simp [c8, h]
theorem c8_set (l : List UInt8) (k : Nat) (c : UInt8) : (c8 l).set k (.int .u8 (c.toNat : Int)) = c8 (l.set k c) := by simp [c8, List.map_set]
def RowB (w : World) (B g cap n : Nat) (l : List UInt8) : Prop := l.length = n ∧ w.ownsRow B 5 1 (.slice (some ⟨g, 0, none⟩) n cap) n (c8 l)
theorem RowB.cell {w : World} {B g cap n : Nat} {l : List UInt8} (h : RowB w B g cap n l) (i : Nat) (hi : i < l.length) : w.cell? ⟨g, i, none⟩ = some (.int .u8 (((l[i]'hi).toNat : Nat) : Int)) := by
  rw [World.ownsRow.cellAt h.2 i (by have := h.1; omega), c8_at l i hi]
theorem RowB.free {w : World} {B g cap n : Nat} {l : List UInt8} (h : RowB w B g cap n l) (i : Nat) : w.frozen? ⟨g, i, none⟩ = false := World.ownsRow.frozenAt h.2 i
theorem RowB.set {w : World} {B g cap n : Nat} {l : List UInt8} (h : RowB w B g cap n l) (k : Nat) (c : UInt8) : RowB (w.setCell ⟨g, k, none⟩ (.int .u8 (c.toNat : Int))) B g cap n (l.set k c) := by
  have h1 := (World.ownsRow.stored h.2 k (.int .u8 (c.toNat : Int))).1
  rw [c8_set] at h1
  exact ⟨by rw [List.length_set]; exact h.1, h1⟩
theorem RowB.lt {w : World} {B g cap n : Nat} {l : List UInt8} (h : RowB w B g cap n l) : B ≤ g ∧ g < w.heap.size := World.ownsRow.lt h.2 g rfl
theorem RowB.len_cap {w : World} {B g cap n : Nat} {l : List UInt8} (h : RowB w B g cap n l) : n ≤ cap ∧ cap ≤ maxLen := by
  rcases h.2.2 with ⟨h0, _⟩ | ⟨g', cap', cur, e, hg, hh, h1, h2, _⟩
  · cases h0
  · cases e; exact ⟨h1, h2⟩
theorem info8 : (Tryd.prog.info? 5).map (fun i => (i.zero, i.size, i.bytes)) = some (some (.int .u8 0), 1, 1) := by kernel_rfl
/-- zeros, then what has been written -/
def dig0 (m : Nat) (s : List UInt8) : List UInt8 := List.replicate m 0 ++ s
theorem dig0_set (m : Nat) (s : List UInt8) (c : UInt8) : (dig0 (m + 1) s).set m c = dig0 m (c :: s) := by
  unfold dig0
  rw [List.replicate_succ', List.append_assoc, List.set_append_right _ _ (by simp)]
  simp
theorem dig0_len (m : Nat) (s : List UInt8) : (dig0 m s).length = m + s.length := by simp [dig0]
theorem joinL_take (p : List Nat) (k : Nat) (hk : k < p.length) : joinL (p.take (k + 1)) = ld (p[k]'hk) 9 ++ joinL (p.take k) := by
  rw [List.take_succ_eq_append_getElem hk, joinL_snoc]

theorem RowB.bytesAt {w : World} {B g cap n : Nat} {l : List UInt8} (h : RowB w B g cap n l) : Lib.BytesAt w (some ⟨g, 0, none⟩) n l := by
  intro h0
  refine ⟨g, 0, rfl, fun i hi => ?_⟩
  have hl : i < l.length := by rw [h.1]; exact hi
  rw [Nat.zero_add, h.cell i hl]
  simp [List.getD_eq_getElem?_getD, hl]
theorem left_val {g n a : Nat} {l : List UInt8} (hl : l.length = n) (hd : l.dropWhile (· == 48) = Lib.decDigits a) :
    Lib.leftV (some ⟨g, 0, none⟩) n n (n - (Lib.trimLeftS l [48]).length) = .slice (some ⟨g, n - (Lib.decDigits a).length, none⟩) (Lib.decDigits a).length (Lib.decDigits a).length ∧
    (∀ j (hj : j < (Lib.decDigits a).length), ∃ h : n - (Lib.decDigits a).length + j < l.length, l[n - (Lib.decDigits a).length + j]'h = (Lib.decDigits a)[j]) := by
  have e : Lib.trimLeftS l [48] = Lib.decDigits a := by rw [Lib.trimLeftS_one]; exact hd
  have hs : Lib.decDigits a <:+ l := by rw [← hd]; exact List.dropWhile_suffix _
  have hle : (Lib.decDigits a).length ≤ l.length := hs.length_le
  have hpos : 0 < (Lib.decDigits a).length := List.length_pos_iff.2 (dd_ne a)
  have hdr : Lib.decDigits a = l.drop (l.length - (Lib.decDigits a).length) := (List.suffix_iff_eq_drop.1 hs)
  rw [e]
  constructor
  · unfold Lib.leftV Lib.fromV
    rw [if_neg (by omega), if_neg (by omega)]
    simp only [Option.map_some, Lib.add_plain, Nat.zero_add]
    rw [show n - (n - (Lib.decDigits a).length) = (Lib.decDigits a).length by omega]
  · intro j hj
    refine ⟨by omega, ?_⟩
    have h1 : (Lib.decDigits a)[j]? = (l.drop (l.length - (Lib.decDigits a).length))[j]? := by rw [← hdr]
    rw [List.getElem?_drop, List.getElem?_eq_getElem hj, List.getElem?_eq_getElem (by omega)] at h1
    have h2 := Option.some.inj h1
    rw [h2]; simp only [hl]

set_option maxHeartbeats 3200000 in
set_option maxRecDepth 100000 in
theorem join_any (B g cap : Nat) (p : List Nat) (a : Nat) (w : World) (h : Row w B g cap p) (hp : Pcs p a) (hn : p.length ≤ 200000) :
    Calls Tryd.prog 25 #[.slice (some ⟨g, 0, none⟩) p.length cap] w fun e w' => e = .returned (.string (str a)) ∧ Below w.heap.size w w' := by
  by_cases h0 : p = []
  · subst h0
    have ha : a = 0 := hp.val.symm
    have hs : str a = ⟨#[48]⟩ := by rw [ha]; exact (str_eq 0 (by decide) (by decide)).symm
    rw [hs]
    clear hs ha h hp
    go_enter Tryd.func25, Tryd.ntmps25
    go_wp2_with fail
    go_ret
    exact ⟨rfl, Below.refl _ _⟩
  · have hlc := h.len_cap
    unfold maxLen at hlc
    obtain ⟨i0, hi, hz0, hz1, hz2⟩ := info_parts info8
    have hpos : 0 < p.length := List.length_pos_iff.2 h0
    have hb0 : ((p.length : Int) == 0) = false := by rw [beq_eq_false_iff_ne]; omega
    have HH := Lib.hid h
    have HP := Lib.hid (joinL_canon hp h0)
    have HA := Lib.hid hp
    clear h hp h0
    go_enter Tryd.func25, Tryd.ntmps25
    go_wp2_with (at_make; refine wpList_make_full _ rfl _ _ 22 rfl w.heap.size 5 i0 (.int .u8 0) 1 Tryd.underlying22 hi hz0 hz1 .i64 .i64 _ _ (9 * p.length) rfl rfl (by omega) (by omega) (by rw [hz2]; omega) (by unfold maxLen; omega) (Nat.le_refl _) ?_; intro w0 hown0 hgrow0)
    have hbel0 : Below w.heap.size w w0 := (Below.refl _ _).grown hgrow0 (Nat.le_refl _) (by intro k hk; cases hk)
    have hrow0 : RowB w0 w.heap.size w.heap.size (9 * p.length) (9 * p.length) (dig0 (9 * p.length) []) := by
      refine ⟨by rw [dig0_len]; simp, ?_⟩
      have e : c8 (dig0 (9 * p.length) []) = (madeCells (Value.int .u8 0).cells (9 * p.length * 1)).toList := by
        rw [show (Value.int .u8 0).cells = #[.int .u8 0] from rfl, toList_madeCells_one, Nat.mul_one]; simp [c8, dig0]
      rw [e]; exact hown0
    clear hown0 hgrow0
    go_wp2_with fail
    go_loopw [4, 6, 18, 22] (fun av _ iv _ wr => ∃ k m : Nat, iv = .int .i64 k ∧ k ≤ p.length ∧ av = .int .i64 m ∧ Hid (m + 9 * k = 9 * p.length) ∧ RowB wr w.heap.size w.heap.size (9 * p.length) (9 * p.length) (dig0 m (joinL (p.take k))) ∧ Below w.heap.size w wr) (fun _ _ iv _ _ => p.length - (intOf iv).toNat)
    case atStart => exact ⟨0, 9 * p.length, rfl, Nat.zero_le _, by go_num, by show _ = _; omega, hrow0, hbel0⟩
    case round =>
      obtain ⟨k, m, rfl, hk, rfl, HM, hrow, hbel⟩ := hrel
      by_cases hlt : k < p.length
      · have hcell := (HH.out.below hbel).cell k hlt
        obtain ⟨wo, rfl⟩ : ∃ wo : World, wo = wr := ⟨_, rfl⟩
        have hx9 := lt9_at HA.out.lt k hlt
        obtain ⟨x, hx⟩ : ∃ x : Nat, x = p[k] := ⟨_, rfl⟩
        rw [← hx] at hcell hx9
        have HX := Lib.hid hx
        have HJ := Lib.hid (joinL_take p k hlt)
        clear hx
        have HR := Lib.hid hrow
        have HB := Lib.hid hbel
        clear hrow hbel
        go_wp2_with fail
        go_loopw [4, 6, 22] (fun av xv jv wr => ∃ j m y : Nat, jv = .int .i64 j ∧ j ≤ 9 ∧ av = .int .i64 m ∧ xv = .int .u64 y ∧ y < 1000000000 ∧ Hid (m + j + 9 * k = 9 * p.length ∧ y = x / 10 ^ j) ∧ RowB wr w.heap.size w.heap.size (9 * p.length) (9 * p.length) (dig0 m (ld x j ++ joinL (p.take k))) ∧ Below w.heap.size w wr) (fun _ _ jv _ => 9 - (intOf jv).toNat)
        case atStart => exact ⟨0, m, x, rfl, by omega, rfl, rfl, hx9, ⟨by have := HM.out; omega, by simp⟩, HR.out, HB.out⟩
        case round =>
          obtain ⟨j, m', y, rfl, hj, rfl, rfl, hy, HI, hrow, hbel⟩ := hrel
          by_cases hj9 : j < 9
          · have hi1 := HI.out.1
            obtain ⟨q, rfl⟩ : ∃ q, m' = q + 1 := ⟨m' - 1, by omega⟩
            have hl : (ld x j ++ joinL (p.take k)).length = j + 9 * k := by rw [List.length_append, ld_len, joinL_len, List.length_take]; omega
            have hq : q < (dig0 (q + 1) (ld x j ++ joinL (p.take k))).length := by rw [dig0_len]; omega
            obtain ⟨c0, hc0⟩ : ∃ c0 : Int, wr.cell? ⟨w.heap.size, q, none⟩ = some (.int .u8 c0) := ⟨_, hrow.cell q hq⟩
            have hf0 := hrow.free q
            have hqb : q < 9 * p.length := by omega
            have HR2 := Lib.hid hrow
            have HB2 := Lib.hid hbel
            clear hrow hbel hq hl hi1
            go_wp2_with fail
            all_goals go_roundw
            case rel =>
              have hy2 := HI.2
              have ed : 48 + (y : Int) % 10 = ((Lib.dg x j).toNat : Int) := by rw [dg_nat, ← hy2]; omega
              have e2 := HR2.out.set q (Lib.dg x j)
              rw [dig0_set, ← ed] at e2
              refine ⟨j + 1, q, y / 10, by go_num, by omega, rfl, by go_num, by omega, ⟨by have := HI.1; omega, by rw [hy2, Nat.pow_succ, Nat.div_div_eq_div_mul]⟩, e2, HB2.out.setCell (Nat.le_refl _) _⟩
            case measure => simp [intOf]; omega
          · have HR2 := Lib.hid hrow
            have HB2 := Lib.hid hbel
            clear hrow hbel
            go_wp2_with fail
            all_goals go_roundw
            case rel =>
              have hj' : j = 9 := by omega
              subst hj'
              have e2 := HR2.out
              rw [HX.out, ← HJ.out] at e2
              exact ⟨k + 1, m', by go_num, by omega, rfl, by show _ = _; have := HI.1; omega, e2, HB2.out⟩
            case measure => simp [intOf]; omega
      · have hk' : k = p.length := by omega
        subst hk'
        have hm0 : m = 0 := by have := HM.out; omega
        subst hm0
        have hjl : (joinL p).length = 9 * p.length := joinL_len p
        have hrow2 : RowB wr w.heap.size w.heap.size (9 * p.length) (9 * p.length) (joinL p) := by
          have := hrow; rw [List.take_length] at this; exact this
        obtain ⟨hv, hcs⟩ := left_val (g := w.heap.size) hjl HP.out
        have htr := Tryd.bytes_TrimLeft_one (some ⟨w.heap.size, 0, none⟩) (9 * p.length) (9 * p.length) (joinL p) 48 wr hjl (Nat.le_refl _) (by omega) hrow2.bytesAt (by omega) (by decide)
        rw [hv] at htr
        have hcv := run_convert_bytes_back (P := Tryd.prog) wr 22 26 5 ⟨w.heap.size, 9 * p.length - (Lib.decDigits a).length, none⟩ (Lib.decDigits a).length (Lib.decDigits a) Tryd.underlying22 Tryd.underlying5 Tryd.underlying26 (fun j hj => by
          obtain ⟨h1, h2⟩ := hcs j hj
          rw [Lib.add_plain, hrow2.cell _ h1, h2])
        have HT := Lib.hid htr
        have HB2 := Lib.hid hbel
        clear htr hv hcs hrow hbel hrow2 hjl hlt
        generalize 9 * p.length - (Lib.decDigits a).length = z at *
        generalize (Lib.decDigits a).length = L at *
        go_wp2_with fail
        refine HT.out.mono ?_
        rintro e w' ⟨rfl, rfl⟩
        go_wp2_with fail
        go_ret
        exact ⟨rfl, HB2.out⟩
end Go.Proofs.YtfhmdlpjeiockaaDoor
