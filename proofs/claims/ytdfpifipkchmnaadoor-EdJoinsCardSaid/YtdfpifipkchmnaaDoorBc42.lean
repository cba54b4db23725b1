/- Proved here: texts joined: Seqs. -/
import Derived.Test.YtdfpifipkchmnaaDoorBc02
import Derived.RangeFuncNested
import Derived.RangeFuncBound
import Derived.RangeFuncCalls
import Derived.RangeFuncLeaves
import Derived.RangeFuncBox
import Derived.Sort.QuietThIn
/- Proved here, without conditions on the program: a range over a function that keeps state of its own in cells (a variable that its closures share), and a region in a round whose calls only make memory. -/
namespace Go.Proofs.YtdfpifipkchmnaaDoor
open Go.RowKit
set_option linter.unusedVariables false

/-- The blocks that an iterator may turn: the first k behind block b, and, behind it, whatever holds no cells. -/
def Mine (b k : Nat) (w : World) (r : Nat) : Prop := b ≤ r ∧ (r < b + k ∨ ∃ o : Obj, w.heap[r]? = some o ∧ o.isCells = false)
/-- What stays true whatever an iterator does to its own. -/
def Bides {β : Type} (b k : Nat) (J : β → World → Prop) : Prop := ∀ s w w' row, J s w → w.grownBy w' row → (∀ r, row = some r → Mine b k w r) → J s w'
/-- What a round must leave to the iterator: the blocks of R, the first k behind block b, and, behind it, what holds no cells. -/
structure Leaves (R : Nat → Prop) (b k : Nat) (w w' : World) : Prop where
  size : w.heap.size ≤ w'.heap.size
  kept : ∀ r, r < w.heap.size → (R r ∨ (b ≤ r ∧ r < b + k)) → w'.heap[r]? = w.heap[r]?
  rest : ∀ (r : Nat) (o : Obj), b ≤ r → w.heap[r]? = some o → o.isCells = false → w'.heap[r]? = some o

/-- An iterator with state of its own: what it owes for whatever body the rounds have. -/
def Iter {α : Type} (F : Fence) (n : Nat) (P : Program) (g : Nat) (lb : Array Value) (encs : α → Array Value) (R : Nat → Prop) (k : Nat) (xs : List α) (w : World) : Prop :=
  ∀ (l : Nat) (J Jx : List α → World → Prop) (W : World), Below w.heap.size w W → Bides W.heap.size k J → Bides W.heap.size k Jx →
    (∀ pre x W1, J pre W1 → W.heap.size + k ≤ W1.heap.size → (∃ post, xs = pre ++ x :: post) → YieldAt F (n - 1) P l (encs x) W1 fun e W' =>
      (e = .returned (.bool true) ∧ J (pre ++ [x]) W' ∧ Leaves R W.heap.size k W1 W') ∨ (e = .returned (.bool false) ∧ Jx (pre ++ [x]) W' ∧ Leaves R W.heap.size k W1 W')) →
    J [] W →
    CallsIn F n P g (#[.func (.yield l) #[] #[]] ++ lb) W fun e W' => (∃ v, e = .returned v) ∧ (J xs W' ∨ ∃ pre, pre <+: xs ∧ Jx pre W')

section
variable {β : Type} {b k : Nat} {J J' : β → World → Prop} {R : Nat → Prop} {w w' w'' : World}
theorem Bides.and (h : Bides b k J) (h' : Bides b k J') : Bides b k (fun s w => J s w ∧ J' s w) := fun s w w' row hs hg hr => ⟨h s w w' row hs.1 hg hr, h' s w w' row hs.2 hg hr⟩
theorem Bides.alloc (h : Bides b k J) {s : β} (hs : J s w) (o : Obj) : J s (w.alloc o) := h s w _ none hs (World.grownBy_alloc w o none) (by simp)
theorem Bides.putObj (h : Bides b k J) {s : β} {r : Nat} {o : Obj} (hs : J s w) (hb : b ≤ r) (hr : w.heap[r]? = some o) (ho : o.isCells = false) (o' : Obj) : J s (w.putObj r o') :=
  h s w _ (some r) hs (grownBy_putObj' w r o') (fun q e => by cases e; exact ⟨hb, .inr ⟨o, hr, ho⟩⟩)
theorem Bides.setCell (h : Bides b k J) {s : β} {r j : Nat} (hs : J s w) (hb : b ≤ r) (hr : r < b + k) (u : Value) : J s (w.setCell ⟨r, j, none⟩ u) :=
  h s w _ (some r) hs ⟨rfl, rfl, rfl, by simp [World.setCell], fun q hq hn => Below.heap_setCell _ _ _ _ (fun e => hn (by rw [e]))⟩ (fun q e => by cases e; exact ⟨hb, .inl hr⟩)
theorem Bides.drew (h : Bides b k J) {s : β} (hs : J s w) : J s w.drew := h s w _ none hs ⟨rfl, rfl, rfl, Nat.le_refl _, fun _ _ _ => rfl⟩ (by simp)
theorem Bides.below (h : Bides b k J) {s : β} (hs : J s w) (hb : Below w.heap.size w w') : J s w' := h s w _ none hs ⟨hb.os, hb.tape, hb.output, hb.size, fun q hq _ => hb.block q hq⟩ (by simp)
theorem Bides.pure (b k : Nat) (p : β → Prop) : Bides b k (fun s (_ : World) => p s) := fun _ _ _ _ hs _ _ => hs
theorem Bides.sub {b' k' : Nat} (h : Bides b k J) (hb : b ≤ b') (hk : b' + k' ≤ b + k) : Bides b' k' J := fun s w w' row hs hg hr => h s w w' row hs hg fun r e => by
  obtain ⟨h1, h2 | h2⟩ := hr r e
  · exact ⟨by omega, .inl (by omega)⟩
  · exact ⟨by omega, .inr h2⟩
/-- What speaks of blocks ahead of b, or of cells behind the iterator's own, stays. -/
theorem bides_boxed {B : Nat} {t : TypeId} {f : β → Value} (hB : B < b) : Bides b k (fun s w => Boxed w B t (f s)) := fun s X Y row hs hg hr => hs.kept hg (fun e => by have := (hr B e.symm).1; omega)
theorem bides_below {B : Nat} {w₀ : World} (h0 : B ≤ w₀.heap.size) (hB : B ≤ b) : Bides b k (fun (_ : β) w => Below B w₀ w) :=
  fun s X Y row hs hg hr => hs.grown hg (by have := hs.size; omega) (fun q e => by have := (hr q e).1; omega)
theorem bides_own {e : TypeId} {size B : Nat} {v : β → Value} {n : β → Nat} {f : β → List Value} (hB : b + k ≤ B) : Bides b k (fun s w => w.ownsRow B e size (v s) (n s) (f s)) := fun s X Y row hs hg hr => by
  refine ownsRow_kept hs fun q hq => ?_
  obtain ⟨h1, h2⟩ := hs.lt q hq
  refine hg.block q h2 fun e' => ?_
  obtain ⟨h3, h4 | ⟨o, h5, h6⟩⟩ := hr q e'.symm
  · omega
  · rcases hs.2 with ⟨hv, _⟩ | ⟨g, cap, cur, hv, _, hg', _⟩
    · rw [hv] at hq; cases hq
    · rw [hv] at hq
      obtain rfl : g = q := by simpa [Value.ownBlock] using hq
      rw [hg'] at h5
      cases h5
      cases h6
theorem bides_size {m : Nat} : Bides b k (fun (_ : β) (w : World) => m ≤ w.heap.size) := fun s X Y row hs hg _ => Nat.le_trans hs hg.size

theorem Leaves.refl (R : Nat → Prop) (b k : Nat) (w : World) : Leaves R b k w w := ⟨Nat.le_refl _, fun _ _ _ => rfl, fun _ _ _ h _ => h⟩
theorem Leaves.trans (h : Leaves R b k w w') (h' : Leaves R b k w' w'') : Leaves R b k w w'' :=
  ⟨Nat.le_trans h.size h'.size, fun r hr hR => (h'.kept r (Nat.lt_of_lt_of_le hr h.size) hR).trans (h.kept r hr hR), fun r o hb ho hc => h'.rest r o hb (h.rest r o hb ho hc) hc⟩
theorem Leaves.sub {R' : Nat → Prop} {b' k' : Nat} (h : Leaves R' b' k' w w') (hR : ∀ r, R r → R' r) (hb : b' ≤ b) (hk : b + k ≤ b' + k') : Leaves R b k w w' :=
  ⟨h.size, fun r hr hRr => h.kept r hr (hRr.imp (hR r) (fun h => ⟨by omega, by omega⟩)), fun r o hr ho hc => h.rest r o (by omega) ho hc⟩
/-- A change to blocks of F alone, none of which is the iterator's. -/
theorem Leaves.but {F : Nat → Prop} (h : But F w w') (hR : ∀ r, F r → ¬ R r ∧ (r < b ∨ b + k ≤ r)) (hc : ∀ r, F r → b ≤ r → ∀ o : Obj, w.heap[r]? = some o → o.isCells = true) : Leaves R b k w w' :=
  ⟨h.size, fun r hr hRr => h.block r hr (fun hf => by
    obtain ⟨h1, h2⟩ := hR r hf
    rcases hRr with h3 | h3
    · exact h1 h3
    · omega), fun r o hb ho hoc => (h.block r (Array.getElem?_eq_some_iff.1 ho).1 (fun hf => by rw [hc r hf hb o ho] at hoc; cases hoc)).trans ho⟩
theorem Leaves.below (h : Below w.heap.size w w') : Leaves R b k w w' := ⟨h.size, fun r hr _ => h.block r hr, fun r o _ ho _ => (h.block r (Array.getElem?_eq_some_iff.1 ho).1).trans ho⟩
end

/-- How a round's body may be left. -/
def roundOut {α : Type} (R : Nat → Prop) (b k : Nat) (I : List α → World → Prop) (Ix : List α → World → Prop) (xs : List α) (w : World) : Exit → Act → World → Prop
  | .normal, _, w' => Leaves R b k w w' ∧ I xs w'
  | .ret, _, w' => Leaves R b k w w' ∧ Ix xs w'
  | .exit _, _, _ => False
  | .goto _, _, _ => False
  | .panic _, _, _ => False
  | .outgrown, _, _ => False

variable {F : Fence} {n : Nat} {P : Program}

/-- A loop over an iterator with state of its own: no jump out of its rounds but a return. -/
theorem wpIn_range_iter {α : Type} {g : Operand} {ps : Array Tmp} {assign body : Code} {Q : Exit → Act → World → Prop} {a : Act} {w : World}
    (hro : F.round = none) (h1 : 1 ≤ n) {gf : Nat} {lb : Array Value} (hg : a.eval g = .func (.func gf) #[] lb) (hFg : F.fn gf) (eg : ∀ args w, (callFunc gf args).run P w = .ok (.enter gf args) w)
    {encs : α → Array Value} {R : Nat → Prop} {k : Nat} {xs : List α} (hit : Iter F (n - 1) P gf lb encs R k xs w) (hR : ∀ r, R r → r < w.heap.size) (hps : ∀ x, (encs x).size = ps.size)
    (I Ix : List α → World → Prop) (hIa : Bides w.heap.size (2 + k) I) (hIxa : Bides w.heap.size (2 + k) Ix) (h0 : I [] w)
    (Ax : α → Act → World → Prop) (hAxa : ∀ x a', Bides w.heap.size (2 + k) (fun (_ : Unit) W => Ax x a' W))
    (hassign : ∀ (l : Nat) (pre : List α) (x : α) (W : World) (K : Act → World → Prop), I pre W → w.heap.size + 2 + k ≤ W.heap.size → (∀ a' W', Below W.heap.size W W' → Ax x a' W' → K a' W') →
      assign.wpIn (F.inRound l) (n - 1 - 1) P (Exit.then K (fun _ _ _ => False)) { tmps := (ps.zip (encs x)).foldl (fun t (p, v) => t.setIfInBounds p v) a.tmps, defers := [] } W)
    (hbody : ∀ (l : Nat) (pre post : List α) (x : α) (a' : Act) (W : World), xs = pre ++ x :: post → w.heap.size + 2 + k ≤ W.heap.size → I pre W → Ax x a' W →
      body.wpIn (F.inRound l) (n - 1 - 1) P (roundOut R w.heap.size (2 + k) I Ix (pre ++ [x]) W) a' W)
    (hdone : ∀ (D : Nat) (W : World), w.heap.size ≤ D → w.heap.size + 2 ≤ W.heap.size → I xs W → W.heap[D]? = some (.deferred (some [])) → Q .normal { a with defers := { target := .collected D, args := #[] } :: a.defers } W)
    (hstop : ∀ (D : Nat) (pre : List α) (W : World), w.heap.size ≤ D → pre <+: xs → Ix pre W → W.heap[D]? = some (.deferred (some [])) → Code.ret.wpIn F n P Q { a with defers := { target := .collected D, args := #[] } :: a.defers } W) :
    (Code.rangeFunc g ps assign body).wpIn F n P Q a w := by
  have hI : Bides (w.heap.size + 2) k I := hIa.sub (by omega) (by omega)
  have hIx : Bides (w.heap.size + 2) k Ix := hIxa.sub (by omega) (by omega)
  have hI2 : Bides w.heap.size 2 I := hIa.sub (by omega) (by omega)
  have hIx2 : Bides w.heap.size 2 Ix := hIxa.sub (by omega) (by omega)
  have hAx : ∀ x a', Bides w.heap.size 2 (fun (_ : Unit) W => Ax x a' W) := fun x a' => (hAxa x a').sub (by omega) (by omega)
  clear hIa hIxa hAxa
  refine wpIn_rangeFunc ?_
  intro fn hfn
  rw [hro]
  generalize hD : w.heap.size = D at *
  have key : ∃ rec : LoopState → Option Code → Loop, ∀ st pe, rec st pe = { state := st, pending := pe, fn, tmps := a.tmps, params := ps, assign, body, defers := D } := ⟨_, fun _ _ => rfl⟩
  obtain ⟨rec, hrec⟩ := key
  have hst : ∀ st st' pe, { rec st pe with state := st' } = rec st' pe := fun st st' pe => by rw [hrec, hrec]
  obtain ⟨W1, hW1⟩ : ∃ W1, (w.alloc (.deferred (some []))).alloc (.loop (rec .ready none)) = W1 := ⟨_, rfl⟩
  have hs1 : W1.heap.size = D + 2 := by rw [← hW1]; simp [hD]
  have hD1 : W1.heap[D]? = some (.deferred (some [])) := by
    rw [← hW1, ← hD]; exact (Below.heap_alloc _ _ _ (by simp)).trans (World.alloc_heap_new w _)
  have hL1 : W1.heap[D + 1]? = some (.loop (rec .ready none)) := by
    rw [← hW1, ← hD]; have := World.alloc_heap_new (w.alloc (.deferred (some []))) (.loop (rec .ready none)); rwa [World.size_alloc] at this
  have hI1 : I [] W1 := by rw [← hW1]; exact hI.alloc (hI.alloc h0 _) _
  have hb1 : Below w.heap.size w W1 := by rw [← hW1]; exact ((Below.refl _ w).alloc (Nat.le_refl _) _).alloc (by simp) _
  -- the two blocks of book-keeping, and what the body says, together
  have two : ∀ {Z : List α → World → Prop} (st : LoopState) (pe : Option Code), Bides (D + 2) k Z → Bides W1.heap.size k (fun pre W => Z pre W ∧ W.heap[D + 1]? = some (.loop (rec st pe)) ∧ W.heap[D]? = some (.deferred (some []))) := by
    intro Z st pe hZ s A B row hs hgr hr
    rw [hs1] at hr
    refine ⟨hZ s A B row hs.1 hgr hr, ?_, ?_⟩
    · refine (hgr.block _ (Array.getElem?_eq_some_iff.1 hs.2.1).1 (fun e => ?_)).trans hs.2.1
      have := (hr _ e.symm).1; omega
    · refine (hgr.block _ (Array.getElem?_eq_some_iff.1 hs.2.2).1 (fun e => ?_)).trans hs.2.2
      have := (hr _ e.symm).1; omega
  have put : ∀ {Z : List α → World → Prop} {pre : List α} {W : World} (o o' : Obj) (r : Nat), Bides D 2 Z → D ≤ r → Z pre W → W.heap[r]? = some o → o.isCells = false → Z pre (W.putObj r o') := fun o o' r hZ hr hz ho hc => hZ.putObj hz hr ho hc o'
  refine ⟨D + 1, [{ target := .collected D, args := #[] }], W1, { target := .fn (.func gf) lb, args := #[.func (.yield (D + 1)) #[] #[]] }, W1, gf, #[.func (.yield (D + 1)) #[] #[]] ++ lb, W1, ?_, ?_, ?_, ?_, fun _ => h1, ?_⟩
  · have := run_enterLoop_outer (P := P) (w := w) fn a.tmps ps assign body
    rw [← hW1, hrec]
    rw [hD] at this
    exact this
  · simp only [resolve, hg]
    simp [go_sem]
  · intro f' hf'
    simp [Target.leads] at hf'
    subst hf'
    exact hFg
  · simp [invoke, go_sem, eg]
  · refine (hit (D + 1) (fun pre W => I pre W ∧ W.heap[D + 1]? = some (.loop (rec .ready none)) ∧ W.heap[D]? = some (.deferred (some [])))
      (fun pre W => Ix pre W ∧ W.heap[D + 1]? = some (.loop (rec .done (some .ret))) ∧ W.heap[D]? = some (.deferred (some []))) W1 hb1 (two _ _ hI) (two _ _ hIx) ?_ ⟨hI1, hL1, hD1⟩).mono ?_
    · rintro pre x W ⟨hi, hl, hd⟩ hsz ⟨post, hx⟩
      rw [hs1] at hsz ⊢
      have hps' : (encs x).size = (rec .ready none).params.size := by rw [hrec]; exact hps x
      have hy := run_yield (P := P) (args := encs x) hl hps'
      refine ⟨_, _, _, _, hy, roundIn_of_wpIn (by rw [hrec]; exact hfn) ?_⟩
      simp only [hrec]
      refine hassign _ pre x W _ hi hsz ?_
      intro a' Wa hbW hax
      have hla : Wa.heap[D + 1]? = some (.loop (rec .ready none)) := (hbW.block _ (by omega)).trans hl
      have hda : Wa.heap[D]? = some (.deferred (some [])) := (hbW.block _ (by omega)).trans hd
      have hia : I pre Wa := hI.below hi hbW
      have hsa : D + 2 + k ≤ Wa.heap.size := Nat.le_trans hsz hbW.size
      have hbg := run_beginRound (P := P) hla (by rw [hrec])
      rw [hst] at hbg
      refine ⟨_, hbg, ?_⟩
      have hl2 : (Wa.putObj (D + 1) (.loop (rec .busy none))).heap[D + 1]? = some (.loop (rec .busy none)) := World.putObj_heap_same (by omega)
      have hd2 : (Wa.putObj (D + 1) (.loop (rec .busy none))).heap[D]? = some (.deferred (some [])) := (World.putObj_heap_other (by omega)).trans hda
      refine wpIn_mono (hbody _ pre post x a' _ hx (by simpa using hsa) (put _ _ _ hI2 (by omega) hia hla rfl) ((hAx x a').putObj (s := ()) hax (by omega) hla rfl _)) ?_
      have fin : ∀ (jump : Option Code) (W3 : World), Leaves R D (2 + k) (Wa.putObj (D + 1) (.loop (rec .busy none))) W3 →
          (Instr.endRound (D + 1) jump).run P W3 = .ok (.bool jump.isNone) (W3.putObj (D + 1) (.loop (rec (if jump.isNone then .ready else .done) jump))) ∧ W3.heap[D + 1]? = some (.loop (rec .busy none)) ∧
          (W3.putObj (D + 1) (.loop (rec (if jump.isNone then .ready else .done) jump))).heap[D + 1]? = some (.loop (rec (if jump.isNone then .ready else .done) jump)) ∧
          (W3.putObj (D + 1) (.loop (rec (if jump.isNone then .ready else .done) jump))).heap[D]? = some (.deferred (some [])) ∧
          Leaves R (D + 2) k W (W3.putObj (D + 1) (.loop (rec (if jump.isNone then .ready else .done) jump))) := by
        intro jump W3 hlv
        have hl3 := hlv.rest _ _ (by omega) hl2 rfl
        have hd3 := hlv.rest _ _ (by omega) hd2 rfl
        have he := run_endRound (P := P) jump hl3
        have hr3 : ({ rec .busy none with state := (if jump.isNone then LoopState.ready else .done), pending := jump } : Loop) = rec (if jump.isNone then .ready else .done) jump := by rw [hrec, hrec]
        rw [hr3] at he
        refine ⟨he, hl3, World.putObj_heap_same (Array.getElem?_eq_some_iff.1 hl3).1, (World.putObj_heap_other (by omega)).trans hd3, ?_, ?_, ?_⟩
        · have := hlv.size; have := hbW.size; simp at *; omega
        · intro r hr hRr
          have hne : r ≠ D + 1 := by
            rcases hRr with h | h
            · have := hR r h; omega
            · omega
          have h4 := hlv.kept r (by have := hbW.size; simp; omega) (by rcases hRr with h | h; exact .inl h; exact .inr (by omega))
          exact ((World.putObj_heap_other hne).trans h4).trans ((World.putObj_heap_other hne).trans (hbW.block r hr))
        · intro r o hr ho hoc
          have hne : r ≠ D + 1 := by omega
          exact (World.putObj_heap_other hne).trans (hlv.rest r o (by omega) ((World.putObj_heap_other hne).trans ((hbW.block r (Array.getElem?_eq_some_iff.1 ho).1).trans ho)) hoc)
      rintro e a3 W3 hp
      cases e with
      | normal =>
        obtain ⟨hlv, hi3⟩ := hp
        obtain ⟨hr, hl3, hl4, hd4, hlv4⟩ := fin none W3 hlv
        exact ⟨_, _, hr, .inl ⟨rfl, ⟨put _ _ _ hI2 (by omega) hi3 hl3 rfl, hl4.trans (by rw [hrec]; rfl), hd4⟩, hlv4⟩⟩
      | ret =>
        obtain ⟨hlv, hi3⟩ := hp
        obtain ⟨hr, hl3, hl4, hd4, hlv4⟩ := fin (some .ret) W3 hlv
        exact ⟨_, _, hr, .inr ⟨rfl, ⟨put _ _ _ hIx2 (by omega) hi3 hl3 rfl, hl4.trans (by rw [hrec]; rfl), hd4⟩, hlv4⟩⟩
      | exit id => exact hp.elim
      | goto t => exact hp.elim
      | panic ch => exact hp.elim
      | outgrown => exact hp.elim
    · rintro e W2 ⟨⟨v, rfl⟩, ⟨hi, hl, hd⟩ | ⟨pre, hpre, hi, hl, hd⟩⟩
      · have he := run_endLoop (P := P) hl (by rw [hrec]; simp)
        refine ⟨none, _, by rw [he, hrec], hdone D _ (Nat.le_refl _) (by have := (Array.getElem?_eq_some_iff.1 hl).1; simp; omega) (put _ _ _ hI2 (by omega) hi hl rfl) ((World.putObj_heap_other (by omega)).trans hd)⟩
      · have he := run_endLoop (P := P) hl (by rw [hrec]; simp)
        refine ⟨some .ret, _, by rw [he, hrec], hstop D pre _ (Nat.le_refl _) hpre (put _ _ _ hIx2 (by omega) hi hl rfl) ((World.putObj_heap_other (by omega)).trans hd)⟩

/-- In a round an operation that defers nothing is carried out as everywhere: so is a region of such. -/
theorem wpAnyIn_inRound {ops : Array Oper} {md : Region.Mode} {Q : Exit → Act → World → Prop} (l : Nat) (hro : F.round = none) (hd : ∀ o ∈ ops, ∀ c, o.op ≠ .defer c) : ∀ (fuel : Nat) (listed : Array Bool) (a : Act) (w : World),
    wpAnyIn F n P md ops Q fuel listed a w → wpAnyIn (F.inRound l) n P md ops Q fuel listed a w
  | 0, _, _, _, h => h
  | fuel + 1, listed, a, w, h => ⟨h.1, fun i hi => by
    have h2 := h.2 i hi
    unfold wpOpIn at h2 ⊢
    cases ho : ops[i]? with
    | none =>
      rw [ho] at h2
      exact wpAnyIn_inRound l hro hd fuel _ a w h2
    | some o =>
      rw [ho] at h2
      have hdo := hd o (Array.mem_of_getElem? ho)
      simp only at h2 ⊢
      split
      · rename_i hw
        rw [if_pos hw] at h2
        have h3 := Oper.wpIn_mono (K' := wpAnyIn (F.inRound l) n P md ops Q fuel (listed.setIfInBounds i true)) (fun a w h => wpAnyIn_inRound l hro hd fuel _ a w h) h2
        refine ⟨h3.1, ?_⟩
        have h4 := h3.2
        rw [hro, Oper.semAt_eq _ _ _ hdo] at h4
        rw [Oper.semAt_eq _ _ _ hdo]
        exact h4
      · rename_i hw
        rw [if_neg hw] at h2
        exact ⟨h2.1, wpAnyIn_inRound l hro hd fuel _ _ w h2.2⟩⟩

/-- A region in a round: one walk in the lexical order, over all worlds of a class. -/
theorem wpIn_region_quiet_round {ops : Array Oper} {C : World → Prop} {id : Nat} {Q : Exit → Act → World → Prop} {a : Act} {w : World} (l : Nat) (hro : F.round = none) (hd : ∀ o ∈ ops, ∀ c, o.op ≠ .defer c)
    (hm : P.follows .mixedOrders = true) (hB : Region.lexB .any ops = true) (hC : C { w with drawn := w.drawn + 1 })
    (h : wpQuietIn F n P ops C (fun a' => ∀ w', C w' → Q .normal a' w') ops.toList a) : (Code.region id ops true).wpIn (F.inRound l) n P Q a w := by
  simp only [Region.lexB, Bool.and_eq_true] at hB
  refine wpIn_region_any hm (wpAnyIn_inRound l hro hd _ _ _ _ (wpAnyIn_of_quiet (Q := fun a' => ∀ w', C w' → Q .normal a' w') hro (fun _ w' hw' h => h w' hw') _ _ _ _ hC ?_))
  have := wpAnyQIn_lex (F := F) (n := n) (C := C) (md := .any) hB.1 ops.toList 0 (Array.replicate ops.size false) a (by simp) (by simpa using hB.2) h
  simpa using this
end Go.Proofs.YtdfpifipkchmnaaDoor
