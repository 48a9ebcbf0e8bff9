/-
  The law WholeSums.
-/
import Derived.Test.YtjebddpapbopnaaGreatDoorZSum
import Derived.Test.YtjebddpapbopnaaGreatDoorZPlus
import Derived.Test.YtjebddpapbopnaaGreatDoorZMinus
import Derived.Test.YtjebddpapbopnaaGreatDoorZRAdd
import Derived.Test.YtjebddpapbopnaaGreatDoorZBox
namespace Go.Proofs.YtjebddpapbopnaaGreatDoor
open Go.RowKit

def cS (l : List Int) : List Value := l.map fun z => Value.string (zS z)
theorem cS_at (l : List Int) (i : Nat) (h : i < l.length) : (cS l)[i]? = some (.string (zS (l[i]'h))) := by simp [cS, h]
theorem cS_append (l m : List Int) : cS (l ++ m) = cS l ++ cS m := by simp [cS]
theorem infoS : (Tryz.prog.info? 25).map (fun i => (i.zero, i.size, i.bytes)) = some (some (.string ByteArray.empty), 1, 16) := by kernel_rfl
theorem liesS (w : World) (s : ByteArray) (j : Nat) (u : Value) (h : ([Value.string s] : List Value)[j]? = some u) : (w.alloc (.cells #[.string s] 25)).cell? ((⟨w.heap.size, 0, none⟩ : Addr).add j) = some u := by
  match j, h with
  | 0, h => simp at h; subst h; rw [Lib.add_plain, World.cell?_alloc_new]; rfl
theorem onesS (s : ByteArray) : ∀ u ∈ [Value.string s], u.oneCell' = true := fun u hu => by simp at hu; subst hu; rfl
/-- a slice of the call's own: texts of numbers -/
def OwS (w : World) (B : Nat) (vo : Option Addr) (vc : Nat) (L : List Int) : Prop := w.ownsRow B 25 1 (.slice vo L.length vc) L.length (cS L)
theorem OwS.nil (w : World) (B : Nat) : OwS w B none 0 [] := World.ownsRow_nil _ _ _ _
theorem OwS.snoc {w : World} {B n : Nat} {v : Value} {L : List Int} {x : Int} {xs : List Value} (h : w.ownsRow B 25 1 v n xs) (hn : n = L.length + 1) (hx : xs = cS L ++ [.string (zS x)]) : ∃ g cap, v = .slice (some ⟨g, 0, none⟩) (L ++ [x]).length cap ∧ OwS w B (some ⟨g, 0, none⟩) cap (L ++ [x]) := by
  obtain ⟨g, cap, rfl⟩ := own_some h (by omega)
  have e : (L ++ [x]).length = n := by simp; omega
  refine ⟨g, cap, by rw [e], ?_⟩
  unfold OwS
  rw [e, cS_append]
  have e2 : cS [x] = [.string (zS x)] := rfl
  rw [e2, ← hx]; exact h
theorem OwS.kept {w w' : World} {B : Nat} {vo : Option Addr} {vc : Nat} {L : List Int} (h : OwS w B vo vc L) (hb : Below w.heap.size w w') : OwS w' B vo vc L := by
  refine World.ownsRow.kept (row := none) h ⟨hb.os, hb.tape, hb.output, hb.size, fun j hj _ => hb.block j hj⟩ ?_
  cases hv : (Value.slice vo L.length vc).ownBlock with
  | none => exact .inl rfl
  | some g => exact .inr (by simp)
theorem OwS.txt {w : World} {B : Nat} {vo : Option Addr} {vc : Nat} {L : List Int} (h : OwS w B vo vc L) : Txt w vo L := by
  have hlt := fun q hq => (World.ownsRow.lt h q hq).2
  have hh0 := h
  obtain ⟨h1, h2⟩ := h
  rcases h2 with ⟨h0, _⟩ | ⟨g, cap', cur, e, hg, hh, h3⟩
  · injection h0 with e1 e2 e3
    exact .inl (List.length_eq_zero_iff.1 e2)
  · cases e
    refine .inr ⟨g, 0, rfl, hlt g rfl, fun i hi => ?_⟩
    rw [Nat.zero_add, World.ownsRow.cellAt hh0 i (by omega), cS_at L i hi]
/-- a slice of described numbers -/
def Nums (w : World) (A : Option Addr) (n : Nat) : Prop := n = 0 ∨ ∃ g o, A = some ⟨g, o, none⟩ ∧ g < w.heap.size ∧ ∀ i, i < n → ∃ (b : Bool) (a : Option Addr) (l c : Nat) (z : List Int), w.cell? ⟨g, o + i * 2, none⟩ = some (.bool b) ∧ w.cell? ⟨g, o + i * 2 + 1, none⟩ = some (.slice a l c) ∧ IsRow .u8 w a l c z
theorem Nums.at_ {w wx : World} {A : Option Addr} {n : Nat} (h : Nums w A n) (hb : Below w.heap.size w wx) (i : Nat) (hi : i < n) : ∃ (g o : Nat) (b : Bool) (a : Option Addr) (l c : Nat) (z : List Int), A = some ⟨g, o, none⟩ ∧ wx.cell? ⟨g, o + i * 2, none⟩ = some (.bool b) ∧ wx.cell? ⟨g, o + i * 2 + 1, none⟩ = some (.slice a l c) ∧ IsRow .u8 wx a l c z := by
  rcases h with h | ⟨g, o, h1, h2, h3⟩
  · omega
  · obtain ⟨b, a, l, c, z, q1, q2, q3⟩ := h3 i hi
    exact ⟨g, o, b, a, l, c, z, h1, by rw [hb.cell (p := ⟨g, o + i * 2, none⟩) h2]; exact q1, by rw [hb.cell (p := ⟨g, o + i * 2 + 1, none⟩) h2]; exact q2, q3.below hb⟩
theorem sum_size {L : List Int} (h : ∀ z ∈ L, z.natAbs < 10 ^ 25) : L.sum.natAbs ≤ 10 ^ 25 * L.length := by
  induction L with
  | nil => simp
  | cons x L ih =>
    have h1 := ih fun z hz => h z (List.mem_cons_of_mem _ hz)
    have h2 := h x List.mem_cons_self
    rw [List.sum_cons, List.length_cons]; omega
theorem sum_snoc (L : List Int) (x : Int) : (L ++ [x]).sum = L.sum + x := by rw [List.sum_append]; simp
set_option maxHeartbeats 3200000 in
set_option maxRecDepth 100000 in
theorem sumsZ (b1 : Bool) (a1 : Option Addr) (l1 c1 : Nat) (z1 : List Int) (b2 : Bool) (a2 : Option Addr) (l2 c2 : Nat) (z2 : List Int) (A : Option Addr) (n c : Nat) (w : World) (hs : Std w) (h1 : IsRow .u8 w a1 l1 c1 z1) (h2 : IsRow .u8 w a2 l2 c2 z2) (h3 : Nums w A n) (hn : n ≤ 9223372036854775807) :
    Calls Tryz.prog 7 #[.agg #[.bool b1, .slice a1 l1 c1], .agg #[.bool b2, .slice a2 l2 c2], .slice A n c] w fun e w' => e = .returned (.bool true) ∧ Below w.heap.size w w' := by
  have HS := Lib.hid hs
  have HX := Lib.hid (bx2 w b1 a1 l1 c1 b2 a2 l2 c2)
  have HM := Lib.hid (fun v wx hv hx => make2 (b1 := b1) (b2 := b2) h1 h2 80 (by decide) v wx hv hx)
  have HN := Lib.hid h3
  clear hs h1 h2 h3
  by_cases hl : n ≤ 8
  · have hd : decide ((8 : Int) < (n : Int)) = false := decide_eq_false (by omega)
    go_enter Tryz.func7, Tryz.ntmps7
    go_wp2_with fail
    obtain ⟨W0, hW0⟩ : ∃ W0, W0 = (w.alloc (numO b1 a1 l1 c1)).alloc (numO b2 a2 l2 c2) := ⟨_, rfl⟩
    rw [← hW0] at HX ⊢
    clear hW0
    refine (knownZ_any _ (HS.out.below HX.out.below)).mono ?_
    rintro e w1 ⟨rfl, h1⟩
    have X1 := HX.out.to h1
    clear h1 HX
    go_upto_region 3 with fail
    go_cut [7, 8] from 20 to 23 (fun s t wx => ∃ x y : Int, s = .string (zS x) ∧ t = .string (zS y) ∧ x.natAbs < 10 ^ 80 ∧ y.natAbs < 10 ^ 80 ∧ Bx2 w wx b1 a1 l1 c1 b2 a2 l2 c2)
    case first =>
      have X2 := X1.to (Below.drew (Below.refl _ _))
      have p0 := X1.one.neg
      have p1 := X1.one.dig
      have q0 := X1.two.neg
      have q1 := X1.two.dig
      go_region_with (go_at_call 20; refine (HM.out _ _ ?hv ?hb).mono ?_; (case hb => assumption); (case hv => first | exact .inl rfl | exact .inr rfl); rintro e w' ⟨⟨z, rfl, hz⟩, hbx⟩; have hc0 := hbx.one.neg; have hc1 := hbx.one.dig; have hc2 := hbx.two.neg; have hc3 := hbx.two.dig)
      all_goals (go_wp2_with fail; go_meet; exact ⟨_, _, rfl, rfl, by assumption, by assumption, by assumption⟩)
    case rest =>
      obtain ⟨x, y, rfl, rfl, hx, hy, hbx⟩ := hcut
      clear X1 HM
      have X := Lib.hid hbx.below
      have HX2 := Lib.hid hbx
      have hsx := pow_size hx (by decide)
      have hsy := pow_size hy (by decide)
      clear hbx hx hy
      have HAW := Lib.hid (fun wx hw => addW_any x y wx hw (by omega) (by omega))
      have HAR := Lib.hid (fun wx hw => addZR_any x y wx hw (by omega) (by omega))
      have HSW := Lib.hid (fun wx hw => subW_any x y wx hw (by omega) (by omega))
      have HSR := Lib.hid (fun wx hw => subZR_any x y wx hw (by omega) (by omega))
      have B0 := Lib.hid X.out
      clear HX2 hsx hsy
      obtain ⟨p, hp⟩ : ∃ s, s = zS (x + y) := ⟨_, rfl⟩
      rw [← hp] at HAW HAR
      obtain ⟨m, hm⟩ : ∃ s, s = zS (x - y) := ⟨_, rfl⟩
      rw [← hm] at HSW HSR
      obtain ⟨s, hs⟩ : ∃ s, s = zS x := ⟨_, rfl⟩
      obtain ⟨t, ht⟩ : ∃ s, s = zS y := ⟨_, rfl⟩
      rw [← hs] at HAW HAR HSW HSR ⊢
      rw [← ht] at HAW HAR HSW HSR ⊢
      have n1 : (p.toList == p.toList) = true := beq_self_eq_true _
      have n2 : (m.toList == m.toList) = true := beq_self_eq_true _
      have E0 := Lib.hid zS_zero
      obtain ⟨i0, hi, hz0, hz1, hz2⟩ := info_parts infoS
      clear hp hm hs ht
      go_wp2_with fail
      go_loopw [9, 10, 11] (fun av sv iv wr => ∃ (vo : Option Addr) (vc : Nat) (L : List Int), av = .slice vo L.length vc ∧ sv = .string (zS L.sum) ∧ iv = .int .i64 (L.length : Int) ∧ L.length ≤ n ∧ Hid (OwS wr w.heap.size vo vc L) ∧ Hid (∀ z ∈ L, z.natAbs < 10 ^ 25) ∧ Hid (Below w.heap.size w wr)) (fun _ _ iv _ => n - (intOf iv).toNat)
      case atStart => exact ⟨none, 0, [], rfl, by rw [show ([] : List Int).sum = 0 from rfl, E0.out], rfl, Nat.zero_le _, OwS.nil _ _, fun z hz => by simp at hz, B0.out⟩
      case round =>
        obtain ⟨vo, vc, L, rfl, rfl, rfl, hLn, HO, HL, HB⟩ := hrel
        have hbs := HB.out.size
        have hsm := sum_size HL.out
        have hls : (str L.sum.natAbs).size ≤ 30 := str_big (n := 30) (Nat.lt_of_le_of_lt (Nat.le_trans hsm (Nat.mul_le_mul_left _ (show L.length ≤ 8 by omega))) (by decide)) (by decide)
        by_cases hlt : L.length < n
        · obtain ⟨g, o, b, a, l, k, z, hA, hc0, hc1, hrow⟩ := HN.out.at_ HB.out L.length hlt
          subst hA
          have HMk := Lib.hid (makeZ_any b a l k z 25 wr hrow (by decide))
          have HAD := Lib.hid (fun (x : Int) wx hw (h : (str x.natAbs).size ≤ 25) => addZR_any L.sum x wx hw (by omega) (by omega))
          obtain ⟨T, hT⟩ : ∃ T, T = zS L.sum := ⟨_, rfl⟩
          rw [← hT] at HAD ⊢
          clear hT hls hsm hrow
          go_wp2_with fail
          refine HMk.out.mono ?_
          rintro e w1 ⟨⟨v, rfl, hv⟩, h1⟩
          have B1 := Lib.hid (HB.out.trans (h1.mono hbs))
          have HO1 := Lib.hid (HO.out.kept h1)
          have hbs1 := B1.out.size
          have HAV := Lib.hid (fun wx hw => HAD.out v wx hw (pow_size hv (by decide)))
          have HL2 := Lib.hid (show ∀ z ∈ L ++ [v], z.natAbs < 10 ^ 25 from fun z hz => by
            rcases List.mem_append.1 hz with q | q
            · exact HL.out z q
            · rw [List.mem_singleton.1 q]; exact hv)
          have HSN := Lib.hid (sum_snoc L v)
          rw [← HSN.out] at HAV
          obtain ⟨vs, hvs⟩ : ∃ vs, vs = zS v := ⟨_, rfl⟩
          have HVS := Lib.hid hvs
          rw [← hvs] at HAV ⊢
          clear h1 hv HMk HAD hc0 hc1 hvs
          go_wp2_with (at_builtin; refine wpList_append_own _ rfl _ _ 44 rfl w.heap.size 25 i0 (.string ByteArray.empty) 1 16 Tryz.underlying44 hi hz0 hz1 hz2 rfl (by decide) _ _ _ rfl (World.ownsRow.alloc HO1.out _) ⟨w1.heap.size, 0, none⟩ 1 1 [.string vs] rfl rfl (liesS _ _) (onesS _) (by unfold maxLen; omega) (by omega) (by first | omega | (simp; omega)) ?_)
          intro v' w2 hown' hgrow _
          obtain ⟨g', cap', rfl, how⟩ := OwS.snoc (L := L) (x := v) hown' (by omega) (by rw [← HVS.out])
          have hbel2 : Below w.heap.size w w2 := (B1.out.alloc hbs1 _).grown hgrow (by simp; omega) (by intro q hq; exact (World.ownsRow.lt HO1.out q hq).1)
          have hcz := World.ownsRow.cellAt how L.length (by simp)
          rw [cS_at _ _ (by simp)] at hcz
          rw [show (L ++ [v])[L.length]'(by simp) = v by simp, ← HVS.out] at hcz
          obtain ⟨L2, hL2⟩ : ∃ L2, L2 = L ++ [v] := ⟨_, rfl⟩
          have hln : L2.length = L.length + 1 := by rw [hL2]; simp
          rw [← hL2] at how HL2 HAV ⊢
          have hL3 : L.length < L2.length := by omega
          have HW2 := Lib.hid how
          have B2 := Lib.hid hbel2
          have HLN := Lib.hid hln
          clear hown' hgrow how hbel2 hln hL2
          go_wp2_with fail
          refine (HAV.out _ (HS.out.below B2.out)).mono ?_
          rintro e w3 ⟨rfl, h3⟩
          have B3 := Lib.hid (B2.out.trans (h3.mono B2.out.size))
          have HW3 := Lib.hid (HW2.out.kept h3)
          clear h3
          go_wp2_with fail
          all_goals go_roundw
          case rel => exact ⟨_, _, L2, rfl, rfl, by rw [HLN.out]; go_num, by rw [HLN.out]; omega, HW3, HL2, B3.out⟩
          case measure => simp [intOf] <;> omega
        · have HSU := Lib.hid (sumW_any vo vc L)
          have HTX := Lib.hid (fun (wx : World) hb => (HO.out.txt.below (w' := wx) hb))
          have HL8 := Lib.hid (show L.length ≤ 100 by omega)
          have HZ := Lib.hid (show ∀ z ∈ L, z.natAbs < 10000000000000000000000000 from HL.out)
          obtain ⟨T, hT⟩ : ∃ T, T = zS L.sum := ⟨_, rfl⟩
          rw [← hT] at HSU ⊢
          have n3 : (T.toList == T.toList) = true := beq_self_eq_true _
          clear hT hls hsm
          go_wp2_with fail
          refine (HAW.out _ (HS.out.below HB.out)).mono ?_
          rintro e w1 ⟨rfl, h1⟩
          have B1 := Lib.hid (HB.out.trans (h1.mono HB.out.size))
          have D1 := Lib.hid h1
          clear h1
          go_wp2_with fail
          refine (HAR.out _ (HS.out.below B1.out)).mono ?_
          rintro e w2 ⟨rfl, h2⟩
          have B2 := Lib.hid (B1.out.trans (h2.mono B1.out.size))
          have D2 := Lib.hid (D1.out.trans (h2.mono D1.out.size))
          clear h2
          go_wp2_with fail
          refine (HSW.out _ (HS.out.below B2.out)).mono ?_
          rintro e w3 ⟨rfl, h3⟩
          have B3 := Lib.hid (B2.out.trans (h3.mono B2.out.size))
          have D3 := Lib.hid (D2.out.trans (h3.mono D2.out.size))
          clear h3
          go_wp2_with fail
          refine (HSR.out _ (HS.out.below B3.out)).mono ?_
          rintro e w4 ⟨rfl, h4⟩
          have B4 := Lib.hid (B3.out.trans (h4.mono B3.out.size))
          have D4 := Lib.hid (D3.out.trans (h4.mono D3.out.size))
          clear h4
          go_wp2_with fail
          refine (HSU.out _ (HS.out.below B4.out) (HTX.out _ D4.out) HL8.out HZ.out).mono ?_
          rintro e w5 ⟨rfl, h5⟩
          have B5 := Lib.hid (B4.out.trans (h5.mono B4.out.size))
          clear h5
          go_wp2_with fail
          go_ret
          exact ⟨rfl, B5.out⟩
  · have hd : decide ((8 : Int) < (n : Int)) = true := decide_eq_true (by omega)
    go_enter Tryz.func7, Tryz.ntmps7
    go_wp2_with fail
    obtain ⟨W0, hW0⟩ : ∃ W0, W0 = (w.alloc (numO b1 a1 l1 c1)).alloc (numO b2 a2 l2 c2) := ⟨_, rfl⟩
    rw [← hW0] at HX ⊢
    clear hW0
    refine (knownZ_any _ (HS.out.below HX.out.below)).mono ?_
    rintro e w1 ⟨rfl, h1⟩
    have X1 := HX.out.to h1
    clear h1 HX
    go_wp2_with fail
    refine (knownZ_any _ (HS.out.below X1.below)).mono ?_
    rintro e w2 ⟨rfl, h2⟩
    have B2 := Lib.hid (X1.below.trans (h2.mono X1.below.size))
    clear h2
    go_wp2_with fail
    go_ret
    exact ⟨rfl, B2.out⟩
end Go.Proofs.YtjebddpapbopnaaGreatDoor
