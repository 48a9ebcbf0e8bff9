/-
  The reference's Small and Of.
-/
import Derived.Test.YtfhmdlpjeiockaaDoorComp
namespace Go.Proofs.YtfhmdlpjeiockaaDoor
open Go.RowKit

theorem take_le (l : List UInt8) (k : Nat) : val (l.take k) ≤ val l := by
  conv => rhs; rw [← List.take_append_drop k l]
  rw [val_append]
  have : val (l.take k) * 1 ≤ val (l.take k) * 10 ^ (l.drop k).length := Nat.mul_le_mul_left _ (Nat.pow_pos (by decide))
  omega
def maxU : ByteArray := ⟨#[49, 56, 52, 52, 54, 55, 52, 52, 48, 55, 51, 55, 48, 57, 53, 53, 49, 54, 49, 53]⟩
theorem maxU_eq : maxU = str 18446744073709551615 := str_eq _ (by decide +kernel) (by decide +kernel)
theorem compareR_max (a : Nat) (w : World) (ha : (str a).size ≤ 1000000) :
    Calls Tryd.prog 10 #[.string (str a), .string ⟨#[49, 56, 52, 52, 54, 55, 52, 52, 48, 55, 51, 55, 48, 57, 53, 53, 49, 54, 49, 53]⟩] w fun e w' => e = .returned (.int .i64 (cmpN a 18446744073709551615)) ∧ w = w' := by
  have h := compareR_any a 18446744073709551615 w ha (Nat.le_trans (nd20 (by omega)) (by decide))
  rw [← maxU_eq] at h; exact h



def zeros20 : Array Value := #[.int .u8 0, .int .u8 0, .int .u8 0, .int .u8 0, .int .u8 0, .int .u8 0, .int .u8 0, .int .u8 0, .int .u8 0, .int .u8 0, .int .u8 0, .int .u8 0, .int .u8 0, .int .u8 0, .int .u8 0, .int .u8 0, .int .u8 0, .int .u8 0, .int .u8 0, .int .u8 0]
/-- the array's block: twenty bytes -/
def Arr (w : World) (B g : Nat) (l : List UInt8) : Prop := l.length = 20 ∧ w.ownsRow B 76 1 (.slice (some ⟨g, 0, none⟩) 20 20) 20 (c8 l)
theorem Arr.new (w : World) : Arr (w.alloc (.cells zeros20 76)) w.heap.size w.heap.size (dig0 20 []) :=
  ⟨rfl, rfl, .inr ⟨w.heap.size, 20, zeros20, rfl, Nat.le_refl _, heap_alloc_new w _, Nat.le_refl _, by unfold maxLen; decide, rfl, rfl⟩⟩
theorem Arr.cell {w : World} {B g : Nat} {l : List UInt8} (h : Arr w B g l) (i : Nat) (hi : i < l.length) : w.cell? ⟨g, i, none⟩ = some (.int .u8 (((l[i]'hi).toNat : Nat) : Int)) := by
  rw [World.ownsRow.cellAt h.2 i (by have := h.1; omega), c8_at l i hi]
theorem Arr.free {w : World} {B g : Nat} {l : List UInt8} (h : Arr w B g l) (i : Nat) : w.frozen? ⟨g, i, none⟩ = false := World.ownsRow.frozenAt h.2 i
theorem Arr.set {w : World} {B g : Nat} {l : List UInt8} (h : Arr w B g l) (k : Nat) (c : UInt8) : Arr (w.setCell ⟨g, k, none⟩ (.int .u8 (c.toNat : Int))) B g (l.set k c) := by
  have h1 := (World.ownsRow.stored h.2 k (.int .u8 (c.toNat : Int))).1
  rw [c8_set] at h1
  exact ⟨by rw [List.length_set]; exact h.1, h1⟩
theorem slice20 (g q : Nat) (hq : q < 20) (W : World) :
    (Instr.sliceAt 76 (.pointer (some ⟨g, 0, none⟩)) (some (.int .i64 (q : Int))) none none).run Tryd.prog W = .ok (.slice (some ⟨g, q, none⟩) (20 - q) (20 - q)) W := by
  have hal : Tryd.prog.arrayLen 76 = 20 := by kernel_rfl
  have hel : Tryd.prog.elem 76 = 5 := by kernel_rfl
  rw [run_sliceAt_array_l W 76 ⟨g, 0, none⟩ (by rw [hal, hel]; exact Tryd.underlying76) .i64 (q : Int) (by omega) (by rw [hal]; omega), hal, hel]
  have hs : (sizeOf 5).run Tryd.prog W = .ok 1 W := by kernel_rfl
  rw [hs]
  have hne : ¬ 20 = q := by omega
  simp only [Result.andThen, slicedAt, Int.toNat_natCast, if_neg hne, Nat.mul_one, Lib.add_plain, Nat.zero_add]
theorem ld_dd {u j : Nat} (hu : u < 10 ^ (j + 1)) (h0 : j = 0 ∨ 0 < u / 10 ^ j) : ld u (j + 1) = Lib.decDigits u := by
  have hv : val (ld u (j + 1)) = u := by rw [ld_val, Nat.mod_eq_of_lt hu]
  have hd : u / 10 ^ j < 10 := by rw [Nat.div_lt_iff_lt_mul (Nat.pow_pos (by decide)), Nat.mul_comm, ← Nat.pow_succ]; exact hu
  have hc : canonL (ld u (j + 1)) = true := by
    unfold canonL
    rw [ld_all]
    rcases h0 with h0 | h0
    · subst h0
      have hu10 : u < 10 := by simpa using hu
      have e : ld u 1 = Lib.decDigits u := by
        rw [dd_small hu10]; simp [ld, Lib.dg, Nat.mod_eq_of_lt hu10]
      have := canon_dd u
      rw [← e] at this; unfold canonL at this
      simp only [Bool.and_eq_true] at this
      rw [this.1]; rfl
    · unfold headOk
      have hne : (Lib.dg u j == 48) = false := by
        rw [beq_eq_false_iff_ne]; intro e
        have := congrArg UInt8.toNat e
        rw [dg_nat, Nat.mod_eq_of_lt hd, show (48 : UInt8).toNat = 48 from rfl] at this; omega
      simp [ld, hne]
  rw [← dd_val hc, hv]

set_option maxHeartbeats 1600000 in
set_option maxRecDepth 100000 in
theorem ofR_any (u : Nat) (w : World) (hu : u < 18446744073709551616) :
    Calls Tryd.prog 27 #[.int .u64 u] w fun e w' => e = .returned (.string (str u)) ∧ Below w.heap.size w w' := by
  have hrow0 := Arr.new w
  have hbel0 : Below w.heap.size w (w.alloc (.cells zeros20 76)) := (Below.refl _ _).alloc (Nat.le_refl _) _
  have h20 : u < 10 ^ 20 := by omega
  have H20 := Lib.hid h20
  have HR0 := Lib.hid hrow0
  have HB0 := Lib.hid hbel0
  clear hrow0 hbel0 h20
  go_enter Tryd.func27, Tryd.ntmps27
  go_wp2_with fail
  go_loopw [0, 4] (fun uv kv wr => ∃ (j k m : Nat), kv = .int .i64 k ∧ 1 ≤ k ∧ k ≤ 20 ∧ uv = .int .u64 m ∧ m < 18446744073709551616 ∧ Hid (k + j = 20 ∧ m = u / 10 ^ j ∧ (j = 0 ∨ 0 < m)) ∧ Arr wr w.heap.size w.heap.size (dig0 k (ld u j)) ∧ Below w.heap.size w wr) (fun _ kv _ => (intOf kv).toNat)
  case atStart => exact ⟨0, 20, u, rfl, by omega, by omega, rfl, hu, ⟨rfl, by simp, .inl rfl⟩, HR0.out, HB0.out⟩
  case round =>
    obtain ⟨j, k, m, rfl, hk1, hk2, rfl, hm, HI, hrow, hbel⟩ := hrel
    obtain ⟨q, rfl⟩ : ∃ q, k = q + 1 := ⟨k - 1, by omega⟩
    have hq : q < (dig0 (q + 1) (ld u j)).length := by rw [hrow.1]; omega
    obtain ⟨c0, hc0⟩ : ∃ c0 : Int, wr.cell? ⟨w.heap.size, q, none⟩ = some (.int .u8 c0) := ⟨_, hrow.cell q hq⟩
    have hf0 := hrow.free q
    have hset := hrow.set q (Lib.dg u j)
    have ed : ((Lib.dg u j).toNat : Int) = 48 + (m : Int) % 10 := by rw [dg_nat, ← HI.2.1]; omega
    rw [dig0_set, ed] at hset
    have hset' : Arr (wr.setCell ⟨w.heap.size, q, none⟩ (.int .u8 (48 + (m : Int) % 10))) w.heap.size w.heap.size (dig0 q (ld u (j + 1))) := hset
    have hbel' : Below w.heap.size w (wr.setCell ⟨w.heap.size, q, none⟩ (.int .u8 (48 + (m : Int) % 10))) := hbel.setCell (Nat.le_refl _) _
    have HS := Lib.hid hset'
    have HB := Lib.hid hbel'
    clear hrow hbel hset hset' hbel' ed hq
    by_cases hz : m / 10 = 0
    · have hz' : ((m : Int) / 10 == 0) = true := by rw [beq_iff_eq]; omega
      have hdd : ld u (j + 1) = Lib.decDigits u := by
        have h1 := HI.2.1
        refine ld_dd ?_ ?_
        · have h2 : u / 10 ^ (j + 1) = 0 := by rw [Nat.pow_succ, ← Nat.div_div_eq_div_mul, ← h1]; exact hz
          rcases Nat.div_eq_zero_iff.1 h2 with h3 | h3
          · exact absurd h3 (Nat.ne_of_gt (Nat.pow_pos (by decide)))
          · exact h3
        · rcases HI.2.2 with h3 | h3
          · exact .inl h3
          · exact .inr (by rw [← h1]; exact h3)
      have hlen : (Lib.decDigits u).length = 20 - q := by rw [← hdd, ld_len]; have := HI.1; omega
      have hcv := run_convert_bytes_back (P := Tryd.prog) (wr.setCell ⟨w.heap.size, q, none⟩ (.int .u8 (48 + (m : Int) % 10))) 22 26 5 ⟨w.heap.size, q, none⟩ (20 - q) (Lib.decDigits u) Tryd.underlying22 Tryd.underlying5 Tryd.underlying26 (fun i hi => by
        have hl : q + i < (dig0 q (ld u (j + 1))).length := by rw [HS.out.1]; omega
        rw [Lib.add_plain, HS.out.cell (q + i) hl]
        have e1 : (dig0 q (ld u (j + 1)))[q + i]'hl = (Lib.decDigits u)[i] := by
          simp only [dig0, hdd]
          rw [List.getElem_append_right (by simp)]; simp
        rw [e1])
      rw [hlen] at hcv
      have hcv' : (convert 22 26 (.slice (some ⟨w.heap.size, q, none⟩) (20 - q) (20 - q))).run Tryd.prog (wr.setCell ⟨w.heap.size, q, none⟩ (.int .u8 (48 + (m : Int) % 10))) = .ok (.string (str u)) (wr.setCell ⟨w.heap.size, q, none⟩ (.int .u8 (48 + (m : Int) % 10))) := hcv
      have hsl := fun W => slice20 w.heap.size q (by omega) W
      clear hcv hdd hlen
      go_wp2_with fail
      go_ret
      exact ⟨rfl, HB.out⟩
    · have hz' : ((m : Int) / 10 == 0) = false := by rw [beq_eq_false_iff_ne]; omega
      have hq1 : 1 ≤ q := by
        have h1 := HI.1
        apply Nat.pos_of_ne_zero; intro e
        have hj : j = 19 := by omega
        have h2 := HI.2.1
        have h3 := H20.out
        rw [hj] at h2
        have : u / 10 ^ 19 < 10 := by omega
        omega
      go_wp2_with fail
      all_goals go_roundw
      case rel => exact ⟨j + 1, q, m / 10, by go_num, hq1, by omega, by go_num, by omega, ⟨by have := HI.1; omega, by rw [HI.2.1, Nat.pow_succ, Nat.div_div_eq_div_mul], .inr (by omega)⟩, HS.out, HB.out⟩
      case measure => simp [intOf] <;> omega
end Go.Proofs.YtfhmdlpjeiockaaDoor
