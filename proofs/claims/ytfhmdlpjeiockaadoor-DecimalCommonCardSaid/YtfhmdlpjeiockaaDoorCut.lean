/-
  Contracts of short, cut, cutBoth.
-/
import Derived.Test.YtfhmdlpjeiockaaDoorRow
import Derived.WalkSmall
namespace Go.Proofs.YtfhmdlpjeiockaaDoor
open Go.RowKit

theorem len2 (l : List Nat) (h : l.length ≤ 2) : l = [] ∨ (∃ x, l = [x]) ∨ ∃ x y, l = [x, y] := by
  match l, h with
  | [], _ => exact .inl rfl
  | [x], _ => exact .inr (.inl ⟨x, rfl⟩)
  | [x, y], _ => exact .inr (.inr ⟨x, y, rfl⟩)
theorem ret_val2 {a b : Value} {v : Value} (h : a = b) : Ending.returned (.tuple #[a, v]) = Ending.returned (.tuple #[b, v]) := by rw [h]

set_option maxHeartbeats 800000 in
theorem short_yes (B g cap : Nat) (l : List Nat) (w : World) (h : Row w B g cap l) (hl : l.length ≤ 2) (h9 : lt9 l) :
    Calls Tryd.prog 43 #[.slice (some ⟨g, 0, none⟩) l.length cap] w fun e w' => e = .returned (.tuple #[.int .u64 (pv l), .bool true]) ∧ Below w.heap.size w w' := by
  have hlc := h.len_cap
  unfold maxLen at hlc
  rcases len2 l hl with rfl | ⟨x, rfl⟩ | ⟨x, y, rfl⟩
  · clear h
    go_enter Tryd.func43, Tryd.ntmps43
    go_wp2
    go_ret2
    exact ⟨rfl, Below.refl _ _⟩
  · have hc : w.cell? ⟨g, 0, none⟩ = some (.int .u64 (x : Int)) := h.cell 0 (by simp)
    clear h
    go_enter Tryd.func43, Tryd.ntmps43
    go_wp2
    go_ret2
    exact ⟨ret_val2 (by simp [pv]), Below.refl _ _⟩
  · have hc : w.cell? ⟨g, 0, none⟩ = some (.int .u64 (x : Int)) := h.cell 0 (by simp)
    have hc1 : w.cell? ⟨g, 1, none⟩ = some (.int .u64 (y : Int)) := h.cell 1 (by simp)
    have k0 : x < 1000000000 := h9 x (by simp)
    have k1 : y < 1000000000 := h9 y (by simp)
    simp only [List.length_cons, List.length_nil] at hlc
    clear h h9 hl
    go_enter Tryd.func43, Tryd.ntmps43
    go_wp2
    go_quiet (fail)
    go_wp2
    go_ret2
    refine ⟨ret_val2 (by simp [pv]; omega), below_drewN (Below.refl _ _) _⟩
set_option maxHeartbeats 800000 in
theorem short_no (B g cap : Nat) (l : List Nat) (w : World) (h : Row w B g cap l) (hl : 2 < l.length) :
    Calls Tryd.prog 43 #[.slice (some ⟨g, 0, none⟩) l.length cap] w fun e w' => e = .returned (.tuple #[.int .u64 0, .bool false]) ∧ w = w' := by
  have hlc := h.len_cap
  unfold maxLen at hlc
  have b0 : ((l.length : Int) == 0) = false := by rw [beq_eq_false_iff_ne]; omega
  have b1 : ((l.length : Int) == 1) = false := by rw [beq_eq_false_iff_ne]; omega
  have b2 : ((l.length : Int) == 2) = false := by rw [beq_eq_false_iff_ne]; omega
  clear h
  go_enter Tryd.func43, Tryd.ntmps43
  go_wp2
  go_ret2
  exact ⟨rfl, rfl⟩

theorem own_some {w : World} {B : Nat} {e : TypeId} {v : Value} {n : Nat} {xs : List Value} (h : w.ownsRow B e 1 v n xs) (hn : 0 < n) : ∃ g cap, v = .slice (some ⟨g, 0, none⟩) n cap := by
  rcases h.2 with ⟨_, h0⟩ | ⟨g, cap, cur, hv, _⟩
  · omega
  · exact ⟨g, cap, hv⟩
theorem Row.of {w : World} {B g cap n : Nat} {l : List Nat} {xs : List Value} (h : w.ownsRow B 37 1 (.slice (some ⟨g, 0, none⟩) n cap) n xs) (hl : l.length = n) (hx : xs = c64 l) : Row w B g cap l := by
  unfold Row; rw [hl, ← hx]; exact h
theorem all_sub {l : List UInt8} (h : l.all isD = true) (a e : Nat) : ((l.take e).drop a).all isD = true :=
  List.all_eq_true.2 fun x hx => List.all_eq_true.1 h x (List.mem_of_mem_take (List.mem_of_mem_drop hx))
theorem info64 : (Tryd.prog.info? 37).map (fun i => (i.zero, i.size, i.bytes)) = some (some (.int .u64 0), 1, 8) := by kernel_rfl
theorem ext_list (s : ByteArray) (a e : Nat) : (s.extract a e).data.toList = (s.data.toList.take e).drop a := by rw [Lib.extract_data, List.drop_take]

set_option maxHeartbeats 1600000 in
set_option maxRecDepth 100000 in
theorem cut_any (s : ByteArray) (w : World) (hs : s.size ≤ 1000000) (hc : canonL s.data.toList = true) :
    Calls Tryd.prog 39 #[.string s] w fun e w' => ∃ (g cap : Nat) (p : List Nat), e = .returned (.tuple #[.slice (some ⟨g, 0, none⟩) p.length cap, .bool true]) ∧ Pcs p (val s.data.toList) ∧ Row w' w.heap.size g cap p ∧ Below w.heap.size w w' := by
  obtain ⟨i0, hi, hz0, hz1, hz2⟩ := info_parts info64
  have hb : headOk s.data.toList = true := by unfold canonL at hc; simp only [Bool.and_eq_true] at hc; exact hc.1
  have ha : s.data.toList.all isD = true := by unfold canonL at hc; simp only [Bool.and_eq_true] at hc; exact hc.2
  have HB := Lib.hid hb
  have HA := Lib.hid ha
  clear hb ha hc
  go_enter Tryd.func39, Tryd.ntmps39
  go_wp2_with (first
    | (go_at_call 41; refine (begins_any _ _).mono ?_; rintro e w' ⟨rfl, rfl⟩; rw [HB.out])
    | (at_make; go_loud (refine wpList_make_own _ rfl _ _ 47 rfl w.heap.size 37 i0 (.int .u64 0) 1 Tryd.underlying47 hi hz0 hz1 .i64 .i64 _ (s.size / 9 + 2) rfl rfl (by omega) (by rw [hz2]; omega) (by unfold maxLen; omega) (Nat.le_refl _) ?_); intro w0 hown0 hgrow0))
  have hb0 : Below w.heap.size w w0 := (Below.refl _ _).grown hgrow0 (Nat.le_refl _) (by intro k hk; cases hk)
  have hr0 : Row w0 w.heap.size w.heap.size (s.size / 9 + 2) [] := hown0
  clear hown0 hgrow0
  go_wp2
  go_loopw [4, 5, 6, 7] (fun v ev _ _ wr => ∃ (k g cap : Nat) (p : List Nat) (E : Int), v = .slice (some ⟨g, 0, none⟩) p.length cap ∧ ev = .int .i64 E ∧ -9 < E ∧ E ≤ s.size ∧ Row wr w.heap.size g cap p ∧ Below w.heap.size w wr ∧ Hid (p.length = k ∧ E = (s.size : Int) - 9 * k ∧ lt9 p ∧ pv p = val (s.data.toList.drop (s.size - 9 * k)))) (fun _ ev _ _ _ => (intOf ev).toNat)
  case atStart => exact ⟨0, w.heap.size, s.size / 9 + 2, [], s.size, rfl, rfl, by omega, by omega, hr0, hb0, rfl, by simp, by simp [lt9], by rw [List.drop_of_length_le (by rw [len_list]; omega)]; rfl⟩
  case round =>
    obtain ⟨k, g, cap, p, E, rfl, rfl, hE1, hE2, hrow, hbel, HH⟩ := hrel
    by_cases hE : 0 < E
    · obtain ⟨e, rfl⟩ : ∃ e : Nat, E = e := ⟨E.toNat, by omega⟩
      have hlen := hrow.len_cap
      unfold maxLen at hlen
      obtain ⟨hk, hEk, h9, hpv⟩ := HH.out
      have hkb : p.length < 200000 := by omega
      have hsz : (s.extract (e - 9) e).size ≤ 9 := by rw [ByteArray.size_extract]; omega
      have hdg : (s.extract (e - 9) e).data.toList.all isD = true := by rw [ext_list]; exact all_sub HA.out _ _
      have hval := value_any (s.extract (e - 9) e) wr hsz hdg
      rw [ext_list] at hval
      have hlt := val_lt _ (all_sub HA.out (e - 9) e)
      have hll : ((s.data.toList.take e).drop (e - 9)).length ≤ 9 := by rw [List.length_drop, List.length_take]; omega
      have hpw : 10 ^ ((s.data.toList.take e).drop (e - 9)).length ≤ 10 ^ 9 := Nat.pow_le_pow_right (by decide) hll
      have hstep := cut_step s.data.toList e (by rw [len_list]; omega) p (by rw [hpv]; congr 2; omega) (by rw [len_list]; omega)
      obtain ⟨x, hx⟩ : ∃ x, x = val ((s.data.toList.take e).drop (e - 9)) := ⟨_, rfl⟩
      rw [← hx] at hval hlt hstep
      have hx9 : x < 1000000000 := by omega
      have HX : Hid (p.length = k ∧ (e : Int) = (s.size : Int) - 9 * k ∧ lt9 p ∧ pv (p ++ [x]) = val (s.data.toList.drop (e - 9))) := ⟨hk, hEk, h9, hstep⟩
      have HV := Lib.hid hval
      have HR := Lib.hid hrow
      clear hval hlt hll hpw hstep hx hk hEk h9 hpv HH hsz hdg
      go_wp2_with fail
      rw [show (max 0 ((e : Int) - 9)).toNat = e - 9 from by omega]
      refine HV.out.mono ?_
      rintro e' w1 ⟨rfl, rfl⟩
      go_wp2_with (first
        | (at_builtin; refine wpList_append_own _ rfl _ _ 47 rfl w.heap.size 37 i0 (.int .u64 0) 1 8 Tryd.underlying47 hi hz0 hz1 hz2 rfl (by decide) _ _ _ rfl (World.ownsRow.alloc HR.out _) ⟨wr.heap.size, 0, none⟩ 1 1 [.int .u64 (x : Int)] rfl rfl ?c1 ?c2 ?c3 ?c4 ?c5 ?_)
        | fail)
      case c1 =>
        intro j u hj
        match j, hj with
        | 0, hj => simp at hj; subst hj; simp [Addr.add]
      case c2 => intro u hu; simp at hu; subst hu; rfl
      case c3 => unfold maxLen; omega
      case c4 => omega
      case c5 => have := hbel.size; simp; omega
      · intro v' w2 hown' hgrow _
        obtain ⟨g', cap', rfl⟩ := own_some hown' (by omega)
        have hrow' : Row w2 w.heap.size g' cap' (p ++ [x]) := Row.of hown' (by simp) (by rw [c64_append]; rfl)
        have hbel' : Below w.heap.size w w2 := ((hbel.alloc (by have := hbel.size; omega) _).grown hgrow (by have := hbel.size; simp; omega) (by intro q hq; simp [Value.ownBlock] at hq; have := HR.out.lt; omega))
        have hlen' : (p ++ [x]).length = p.length + 1 := by simp
        clear hown' hgrow
        go_wp2_with fail
        all_goals go_roundw
        case rel =>
          obtain ⟨hk, hEk, h9, hstep⟩ := HX
          refine ⟨k + 1, g', cap', p ++ [x], (e : Int) - 9, by rw [hlen'], rfl, by omega, by omega, hrow', hbel', by rw [hlen', hk], by omega, lt9_snoc h9 hx9, ?_⟩
          rw [hstep]; congr 2; omega
        case measure => simp [intOf]; omega
    · go_wp2_with fail
      refine (trim_any _ g cap p _ hrow).mono ?_
      rintro e' w1 ⟨rfl, rfl⟩
      go_wp2_with fail
      go_ret2
      obtain ⟨hk, hEk, h9, hpv⟩ := HH.out
      have hz : s.size - 9 * k = 0 := by omega
      rw [hz, List.drop_zero] at hpv
      refine ⟨g, cap, trimP p, rfl, ?_, ?_, hbel⟩
      · rw [← hpv]; exact Pcs.of_trim h9
      · have := hrow.take (trimP p).length (trimP_props p).2.2.2.1
        rw [← (trimP_props p).2.2.2.2] at this; exact this

theorem canon_str (a : Nat) : canonL (str a).data.toList = true := by rw [str_list]; exact canon_dd a
theorem val_str (a : Nat) : val (str a).data.toList = a := by rw [str_list, val_dd]

set_option maxHeartbeats 1600000 in
theorem cutBoth_any (a b : Nat) (w : World) (ha : (str a).size ≤ 1000000) (hb : (str b).size ≤ 1000000) :
    Calls Tryd.prog 23 #[.string (str a), .string (str b)] w fun e w' => ∃ (g cap : Nat) (p : List Nat) (g' cap' : Nat) (q : List Nat), e = .returned (.tuple #[.slice (some ⟨g, 0, none⟩) p.length cap, .slice (some ⟨g', 0, none⟩) q.length cap', .bool true]) ∧ Pcs p a ∧ Pcs q b ∧ Row w' w.heap.size g cap p ∧ Row w' w.heap.size g' cap' q ∧ g < g' ∧ Below w.heap.size w w' := by
  go_enter Tryd.func23, Tryd.ntmps23
  go_wp2_with fail
  refine (cut_any _ _ ha (canon_str a)).mono ?_
  rintro e w1 ⟨g, cap, p, rfl, hp, hr, hb1⟩
  rw [val_str] at hp
  have HR := Lib.hid hr
  have HP := Lib.hid hp
  clear hr hp
  go_wp2_with fail
  refine (cut_any _ _ hb (canon_str b)).mono ?_
  rintro e w2 ⟨g', cap', q, rfl, hq, hr2, hb2⟩
  rw [val_str] at hq
  have HR2 := Lib.hid hr2
  have HQ := Lib.hid hq
  clear hr2 hq
  go_wp2_with fail
  go_ret3
  exact ⟨g, cap, p, g', cap', q, rfl, HP.out, HQ.out, HR.out.below hb2, HR2.out.mono hb1.size, by have h1 := HR.out.lt; have h2 := HR2.out.lt; omega, hb1.trans (hb2.mono hb1.size)⟩
end Go.Proofs.YtfhmdlpjeiockaaDoor
