/-
  A range over a function that keeps what is left to it in a box of its own (strings.SplitSeq): a contract for such a function, and the rule for its caller.
-/
import Derived.RangeFuncNested
import Derived.RangeFuncBound
import Derived.RangeFuncCalls
import Derived.RangeFuncLeaves
namespace Go.Proofs.YtkpaopfdnfgjeaaGreatDoor
open Go Go.RowKit

/-- yields, round by round, a list that S holds of, or stops within one that Sp holds of; it writes into the box cb -/
def SeqBox {α : Type} (F : Fence) (n : Nat) (P : Program) (g : Nat) (lb : Array Value) (encs : α → Array Value) (Kp : World → World → Prop) (S Sp : List α → Prop) (N cb : Nat) (w : World) : Prop :=
  ∀ (l : Nat) (J Jx : List α → World → Prop) (W : World), Below w.heap.size w W → AbidesFrom W.heap.size J → (∀ pre A v, J pre A → J pre (A.setCell ⟨cb, 0, none⟩ v)) →
    (∀ pre x A, J pre A → pre.length < N → YieldAt F (n - 1) P l (encs x) A fun e B => (e = .returned (.bool true) ∧ J (pre ++ [x]) B ∧ Kp A B) ∨ (e = .returned (.bool false) ∧ Jx (pre ++ [x]) B)) →
    J [] W → CallsIn F n P g (#[.func (.yield l) #[] #[]] ++ lb) W fun e B => (∃ v, e = .returned v) ∧ ((∃ xs, S xs ∧ J xs B) ∨ ∃ pre, Sp pre ∧ Jx pre B)

/-- the two objects that the statement lays: l the record, l - 1 the list of deferred calls -/
def TwoB (l : Nat) (r : Loop) (W : World) : Prop := W.heap[l]? = some (.loop r) ∧ W.heap[l - 1]? = some (.deferred (some []))
theorem TwoB.turn {l : Nat} {r : Loop} {W : World} (hl : 0 < l) (h : TwoB l r W) (r' : Loop) : TwoB l r' (W.putObj l (.loop r')) :=
  ⟨World.putObj_heap_same (Array.getElem?_eq_some_iff.1 h.1).1, (World.putObj_heap_other (by omega)).trans h.2⟩
theorem TwoB.walk {l B : Nat} {r : Loop} {A W : World} {row : Option Nat} (h : TwoB l r A) (hg : A.grownBy W row) (hr : ∀ k, row = some k → B ≤ k ∧ ∃ o : Obj, A.heap[k]? = some o ∧ o.isWalk = true) : TwoB l r W :=
  ⟨(grownBy_keeps hg (fun k e => (hr k e).2) h.1 rfl).trans h.1, (grownBy_keeps hg (fun k e => (hr k e).2) h.2 rfl).trans h.2⟩
theorem TwoB.set {l cb : Nat} {r : Loop} {A : World} (hcb : cb + 1 < l) (h : TwoB l r A) (v : Value) : TwoB l r (A.setCell ⟨cb, 0, none⟩ v) := by
  have hg := grownBy_setCell' A cb v
  exact ⟨(hg.block l (Array.getElem?_eq_some_iff.1 h.1).1 (by simp; omega)).trans h.1, (hg.block (l - 1) (Array.getElem?_eq_some_iff.1 h.2).1 (by simp; omega)).trans h.2⟩
theorem TwoB.keeps {l B : Nat} {r : Loop} {A W : World} (hB : B + 1 ≤ l) (h : TwoB l r A) (hk : KeepsFrom B A W) : TwoB l r W :=
  ⟨hk.same _ _ (by omega) h.1 rfl, hk.same _ _ (by omega) h.2 rfl⟩

theorem range_box {α : Type} {F : Fence} {n : Nat} {P : Program} {g : Operand} {ps : Array Tmp} {assign body : Code} {Q : Exit → Act → World → Prop} {a : Act} {w : World}
    (hro : F.round = none) (h1 : 1 ≤ n) {gf : Nat} {lb : Array Value} (hg : a.eval g = .func (.func gf) #[] lb) (hFg : F.fn gf) (eg : ∀ args w, (callFunc gf args).run P w = .ok (.enter gf args) w)
    {encs : α → Array Value} {Kp : World → World → Prop} {S Sp : List α → Prop} {N cb : Nat} {w0 : World} (hseq : SeqBox F (n - 1) P gf lb encs Kp S Sp N cb w0) (hcb : cb < w.heap.size)
    (hKt : ∀ {A B C : World}, Kp A B → Kp B C → Kp A C) (hKb : ∀ (W : World) (l : Nat) (o o' : Obj), w.heap.size ≤ l → W.heap[l]? = some o → o.isCells = false → o.isWalk = false → Kp W (W.putObj l o')) (hb0 : Below w0.heap.size w0 w) (hps : ∀ x, (encs x).size = ps.size)
    (I : List α → World → Prop) (Ix : Code → List α → World → Prop) (hI : OwnFrom w.heap.size I) (hIs : ∀ pre A v, I pre A → I pre (A.setCell ⟨cb, 0, none⟩ v)) (hIx : ∀ c, OwnFrom w.heap.size (Ix c)) (h0 : I [] w) (a₁ : α → Act)
    (hassign : ∀ (l : Nat) (x : α) (W : World) (K : Act → World → Prop), K (a₁ x) W →
      assign.wpIn (F.inRound l) (n - 1 - 1) P (Exit.then K (fun _ _ _ => False)) { tmps := (ps.zip (encs x)).foldl (fun t (p, v) => t.setIfInBounds p v) a.tmps, defers := [] } W)
    (hbody : ∀ (l : Nat) (pre : List α) (x : α) (W : World), I pre W → pre.length < N → body.wpIn (F.inRound l) (n - 1 - 1) P (ownPostG w.heap.size Kp I Ix (pre ++ [x]) W) (a₁ x) W)
    (hdone : ∀ (D : Nat) (xs : List α) (W : World), w.heap.size ≤ D → S xs → I xs W → W.heap[D]? = some (.deferred (some [])) → Q .normal { a with defers := { target := .collected D, args := #[] } :: a.defers } W)
    (hstop : ∀ (D : Nat) (c : Code) (pre : List α) (W : World), w.heap.size ≤ D → Sp pre → Ix c pre W → W.heap[D]? = some (.deferred (some [])) → c.wpIn F n P Q { a with defers := { target := .collected D, args := #[] } :: a.defers } W) :
    (Code.rangeFunc g ps assign body).wpIn F n P Q a w := by
  refine wpIn_rangeFunc fun fn hfn => ?_
  obtain ⟨R, hR⟩ : ∃ R : LoopState → Option Code → Loop, R = fun st j => ⟨st, j, fn, a.tmps, ps, assign, body, w.heap.size⟩ := ⟨_, rfl⟩
  obtain ⟨l, hl⟩ : ∃ l, l = w.heap.size + 1 := ⟨_, rfl⟩
  obtain ⟨V, hV⟩ : ∃ V, V = (w.alloc (.deferred (some []))).alloc (.loop (R .ready none)) := ⟨_, rfl⟩
  have hd : w.heap.size = l - 1 := by omega
  have tV : TwoB l (R .ready none) V := by
    constructor
    · have := World.alloc_heap_new (w.alloc (.deferred (some []))) (.loop (R .ready none))
      rw [World.size_alloc] at this
      rw [hl, hV]; exact this
    · rw [← hd, hV]
      exact (Below.heap_alloc _ _ _ (by simp)).trans (World.alloc_heap_new w _)
  have iV : I [] V := by rw [hV]; exact hI.alloc _ (hI.alloc _ h0)
  have sV : V.heap.size = w.heap.size + 2 := by rw [hV]; simp
  have bV : Below w0.heap.size w0 V := by
    rw [hV]; exact hb0.trans ((((Below.refl _ w).alloc (Nat.le_refl _) _).alloc (by simp) _).mono hb0.size)
  refine ⟨l, [{ target := .collected w.heap.size, args := #[] }], V, { target := .fn (.func gf) lb, args := #[.func (.yield l) #[] #[]] }, V, gf, #[.func (.yield l) #[] #[]] ++ lb, V, ?_, ?_, ?_, ?_, fun _ => h1, ?_⟩
  · rw [hro, hV, hR, hl]; exact run_enterLoop_outer _ _ _ _ _
  · simp only [resolve, hg]; simp [go_sem]
  · intro f' hf'; simp [Target.leads] at hf'; subst hf'; exact hFg
  · simp [invoke, go_sem, eg]
  -- a turn of the record, at whatever state
  have turn : ∀ {T : List α → World → Prop} (_ : OwnFrom w.heap.size T) {s : List α} {A : World} {st : LoopState} {j : Option Code}, T s A → TwoB l (R st j) A → ∀ st' j', T s (A.putObj l (.loop (R st' j'))) ∧ TwoB l (R st' j') (A.putObj l (.loop (R st' j'))) :=
    by intro T hT s A st j ht htw st' j'; exact ⟨hT.putObj _ ht (by omega) htw.1 rfl, htw.turn (by omega) _⟩
  refine (hseq l (fun pre A => I pre A ∧ TwoB l (R .ready none) A) (fun pre A => ∃ c, Ix c pre A ∧ TwoB l (R .done (some c)) A) V bV ?_ ?_ ?_ ⟨iV, tV⟩).mono ?_
  · intro s A B row hs hgr hrow
    exact ⟨hI s A B row hs.1 hgr (fun k e => by obtain ⟨hk, o, ho, hw⟩ := hrow k e; exact ⟨by omega, o, ho, Obj.not_cells_of_walk hw⟩), hs.2.walk hgr hrow⟩
  · intro pre A v hs
    exact ⟨hIs pre A v hs.1, hs.2.set (by omega) v⟩
  · -- one round
    intro pre x A hs hlen
    have hy := run_yield (P := P) (args := encs x) hs.2.1 (by rw [hR]; exact hps x)
    rw [hR] at hy
    refine ⟨fn, _, assign, body, hy, roundIn_of_wpIn hfn (hassign _ x A _ ?_)⟩
    obtain ⟨iB, tB⟩ := turn hI hs.1 hs.2 .busy none
    have kB := hKb A l (.loop (R .ready none)) (.loop (R .busy none)) (by omega) hs.2.1 rfl rfl
    refine ⟨A.putObj l (.loop (R .busy none)), by rw [hR]; have := run_beginRound (P := P) hs.2.1 (by rw [hR]); rw [hR] at this; exact this, ?_⟩
    refine wpIn_mono (hbody l pre x _ iB hlen) ?_
    -- the end of a round
    have stop : ∀ (c : Code) (B : World), KeepsFrom w.heap.size (A.putObj l (.loop (R .busy none))) B → Ix c (pre ++ [x]) B →
        ∃ v B', (Instr.endRound l (some c)).run P B = .ok v B' ∧ ((Ending.returned v = .returned (.bool true) ∧ (I (pre ++ [x]) B' ∧ TwoB l (R .ready none) B') ∧ Kp A B') ∨ (Ending.returned v = .returned (.bool false) ∧ ∃ c, Ix c (pre ++ [x]) B' ∧ TwoB l (R .done (some c)) B')) := by
      intro c B hk hi
      have tC := tB.keeps (by omega) hk
      obtain ⟨iD, tD⟩ := turn (hIx c) hi tC .done (some c)
      have he := run_endRound (P := P) (some c) tC.1
      rw [hR] at he iD tD ⊢
      exact ⟨_, _, he, .inr ⟨rfl, c, iD, tD⟩⟩
    intro e a3 B hp
    cases e with
    | normal =>
      obtain ⟨hk, hkp, hi⟩ := hp
      have tC := tB.keeps (by omega) hk
      obtain ⟨iD, tD⟩ := turn hI hi tC .ready none
      have kD := hKb B l (.loop (R .busy none)) (.loop (R .ready none)) (by omega) tC.1 rfl rfl
      have he := run_endRound (P := P) none tC.1
      have kE := hKt kB (hKt hkp kD)
      rw [hR] at he iD tD kE ⊢
      exact ⟨_, _, he, .inl ⟨rfl, ⟨iD, tD⟩, kE⟩⟩
    | ret => exact stop _ B hp.1 hp.2
    | exit id => exact stop _ B hp.1 hp.2
    | goto t => exact stop _ B hp.1 hp.2
    | panic ch => exact hp.elim
    | outgrown => exact hp.elim
  · -- behind the function
    rintro e B ⟨⟨v, rfl⟩, ⟨xs, hS, hi, ht⟩ | ⟨pre, hSp, c, hi, ht⟩⟩
    · obtain ⟨iE, tE⟩ := turn hI hi ht .exhausted none
      have he := run_endLoop (P := P) ht.1 (by rw [hR]; simp)
      rw [hR] at he iE tE
      exact ⟨none, _, he, hdone _ xs _ (Nat.le_refl _) hS iE (by have e := tE.2; rw [← hd] at e; exact e)⟩
    · obtain ⟨iE, tE⟩ := turn (hIx c) hi ht .exhausted (some c)
      have he := run_endLoop (P := P) ht.1 (by rw [hR]; simp)
      rw [hR] at he iE tE
      exact ⟨some c, _, he, hstop _ c pre _ (Nat.le_refl _) hSp iE (by have e := tE.2; rw [← hd] at e; exact e)⟩
end Go.Proofs.YtkpaopfdnfgjeaaGreatDoor
