/- Proved here: texts joined: PanR. -/
import Derived.Test.YtdfpifipkchmnaaGreatDoorBa02
import Derived.RangeFuncNested
import Derived.RangeFuncBound
import Derived.RangeFuncCalls
import Derived.RangeFuncLeaves
import Derived.RangeFuncBox
import Derived.Sort.QuietThIn
/- Proved here, without conditions on the program: a range over a function of whose rounds one may panic; the function that holds it. -/
namespace Go.Proofs.YtdfpifipkchmnaaGreatDoor
open Go.RowKit
set_option linter.unusedVariables false

/-- How a round's body may be left, a panic among these. -/
def roundPostP (P : Program) (l : Nat) (R : Ending → World → Prop) : Exit → Act → World → Prop
  | .normal, _, w => ∃ v w', (Instr.endRound l none).run P w = .ok v w' ∧ R (.returned v) w'
  | .ret, _, _ => False
  | .exit _, _, _ => False
  | .goto _, _, _ => False
  | .panic chain, a, w => a.defers = [] ∧ R (.panicked chain) w
  | .outgrown, _, _ => False

/-- One round, out of its body's walk, which may panic. -/
theorem roundIn_of_wpIn_p {F : Fence} {n : Nat} {P : Program} {l : Nat} {f : FuncId} {tmps : Array Value} {assign body : Code} {w : World} {R : Ending → World → Prop} (hF : F.fn f) (hf : ∃ fn, P.funcs[f]? = some fn)
    (h : assign.wpIn (F.inRound l) n P (Exit.then (fun a₁ w₁ => ∃ w₂, (Instr.beginRound l).run P w₁ = .ok () w₂ ∧ body.wpIn (F.inRound l) n P (roundPostP P l R) a₁ w₂) (fun _ _ _ => False))
      { tmps := tmps, defers := [] } w) :
    RoundIn F n P l f tmps assign body w R := by
  refine ⟨hF, fun c cs hr => ?_⟩
  let b : Frame := { (default : Frame) with fn := f, kind := .normal, roundOf := some l }
  have hb0 : Frame.round l f tmps assign body .normal = b.atR { tmps := tmps, defers := [] } [.code assign, .beginRound, .code body] := by
    simp [Frame.round, Frame.atR, b]
  have hr' : (F.inRound l).room ((c :: cs).length + 1 + n) := hr
  have hF' : (F.inRound l).fn b.fn := hF
  obtain ⟨e, a₁, w₁, hq, harr⟩ := h b [.beginRound, .code body] (c :: cs) rfl hF' hr'
  rw [← hb0] at harr
  cases e with
  | normal =>
    obtain ⟨w₂, hbr, hbody⟩ := hq
    have s1 : StepsIn (Machine.fenced P (F.inRound l)) P (lone (b.atR a₁ [.beginRound, .code body]) (c :: cs) w₁) (lone (b.atR a₁ [.code body]) (c :: cs) w₂) :=
      .one (fenced_calm (fr := b.atR a₁ [.beginRound, .code body]) hF' hr' rfl) (stepR_beginRound rfl hbr)
    obtain ⟨e₂, a₂, w₃, hq₂, harr₂⟩ := hbody b [] (c :: cs) rfl hF' hr'
    cases e₂ with
    | normal =>
      obtain ⟨v, w₄, hend, hR⟩ := hq₂
      exact ⟨.returned v, w₄, hR, (StepsIn.trans harr s1).trans (StepsIn.trans harr₂ (.one (fenced_calm (fr := b.atR a₂ []) hF' hr' rfl) (stepR_round_end rfl rfl hend)))⟩
    | ret => exact hq₂.elim
    | exit id => exact hq₂.elim
    | goto t => exact hq₂.elim
    | panic chain =>
      obtain ⟨hd, hR⟩ := hq₂
      obtain ⟨todo, hs⟩ := harr₂
      have hleave : ({ b.atR a₂ todo with mode := .panicking chain } : Frame).leaving P w₃ (.panicked chain) := ⟨rfl, hd, hf⟩
      have hl : (lone ({ b.atR a₂ todo with mode := .panicking chain } : Frame) (c :: cs) w₃).fenced P (F.inRound l) := fenced_leaving hF' hr' hleave
      exact ⟨.panicked chain, w₃, hR, (StepsIn.trans harr s1).trans (StepsIn.trans hs (.one hl (step_leave_panicked hleave)))⟩
    | outgrown => exact hq₂.elim
  | exit id => exact hq.elim
  | goto t => exact hq.elim
  | ret => exact hq.elim
  | panic chain => exact hq.elim
  | outgrown => exact hq.elim

/-- A walk of code of the function f0 alone (any function else may be called). -/
def wpB (P : Program) (f0 : FuncId) (c : Code) (Q : Exit → Act → World → Prop) (a : Act) (w : World) : Prop :=
  ∀ (b : Frame) (k : List Item) (cs : List Frame), b.roundOf = none → b.fn = f0 →
    ∃ e a' w', Q e a' w' ∧ ArrivesIn (Machine.fenced P Fence.wide) P (lone (b.atR a (.code c :: k)) cs w) b k cs e a' w'

section
variable {P : Program} {f0 : FuncId} {Q : Exit → Act → World → Prop} {a : Act} {w : World}
theorem wpB_of_wp {c : Code} (h : c.wp P Q a w) : wpB P f0 c Q a w := fun b k cs hr _ => (wpIn_wide (n := 0)).2 h b k cs hr trivial (room_wide _)
theorem wpB_seq {x y : Code} (h : wpB P f0 x (Exit.then (wpB P f0 y Q) Q) a w) : wpB P f0 (Code.seq x y) Q a w := by
  intro b k cs hro hb
  have h0 := fenced_wide P (lone (b.atR a (.code (.seq x y) :: k)) cs w)
  obtain ⟨e, a₁, w₁, hq, harr⟩ := h b (.code y :: k) cs hro hb
  cases e with
  | normal =>
    obtain ⟨e₂, a₂, w₂, hq₂, harr₂⟩ := hq b k cs hro hb
    exact ⟨e₂, a₂, w₂, hq₂, .of_steps (.head h0 stepR_seq harr) harr₂⟩
  | exit id => exact ⟨_, a₁, w₁, hq, .of_steps (.one h0 stepR_seq) (.pass (x := .code y) rfl (fun _ _ => .inl (by simp)) harr)⟩
  | goto l => exact ⟨_, a₁, w₁, hq, .of_steps (.one h0 stepR_seq) (.pass (x := .code y) rfl (fun _ _ => .inl (by simp)) harr)⟩
  | ret => exact ⟨_, a₁, w₁, hq, .of_steps (.one h0 stepR_seq) (.pass (x := .code y) rfl (fun _ _ => .inl (by simp)) harr)⟩
  | panic ch => exact ⟨_, a₁, w₁, hq, .of_steps (.one h0 stepR_seq) (.pass (x := .code y) rfl (fun _ _ => .inl (by simp)) harr)⟩
  | outgrown => exact ⟨_, a₁, w₁, hq, .of_steps (.one h0 stepR_seq) (.pass (x := .code y) rfl (fun _ _ => .inl (by simp)) harr)⟩

theorem wpB_block {id : Nat} {c : Code} (h : wpB P f0 c (Exit.inBlock id Q) a w) : wpB P f0 (Code.block id c) Q a w := by
  intro b k cs hro hb
  have h0 := fenced_wide P (lone (b.atR a (.code (.block id c) :: k)) cs w)
  obtain ⟨e, a₁, w₁, hq, harr⟩ := h b (.inBlock id :: k) cs hro hb
  cases e with
  | normal => exact ⟨.normal, a₁, w₁, hq, .head h0 stepR_block (StepsIn.trans harr (.one (fenced_wide P _) stepR_inBlock))⟩
  | exit id' =>
    by_cases hid : id' = id
    · simp only [Exit.inBlock, hid, if_true] at hq
      exact ⟨.normal, a₁, w₁, hq, .head h0 stepR_block (harr.1 k (by simp [exitTo, hid]))⟩
    · simp only [Exit.inBlock, hid, if_false] at hq
      have this : (id == id') = false := by simp; exact fun h => hid h.symm
      have hx : exitTo id' (.inBlock id :: k) = exitTo id' k := by simp [exitTo, this]
      exact ⟨.exit id', a₁, w₁, hq, fun k' hk => .head h0 stepR_block (harr.1 k' (by rw [hx]; exact hk)),
        fun hr' hk => let ⟨k₁, h1, h2⟩ := harr.2 hr' (by rw [hx]; exact hk); ⟨k₁, h1, .head h0 stepR_block h2⟩⟩
  | goto l =>
    have hx : gotoIn l (.inBlock id :: k) = gotoIn l k := by simp [gotoIn]
    exact ⟨_, a₁, w₁, hq, fun k' hk => .head h0 stepR_block (harr.1 k' (by rw [hx]; exact hk)),
      fun hr' hk => let ⟨k₁, h1, h2⟩ := harr.2 hr' (by rw [hx]; exact hk); ⟨k₁, h1, .head h0 stepR_block h2⟩⟩
  | ret => exact ⟨_, a₁, w₁, hq, .of_steps (.one h0 stepR_block) harr⟩
  | panic ch => exact ⟨_, a₁, w₁, hq, .of_steps (.one h0 stepR_block) harr⟩
  | outgrown => exact ⟨_, a₁, w₁, hq, .of_steps (.one h0 stepR_block) harr⟩

/-- What is asked when the function that was ranged over has ended. -/
def rangePostB (P : Program) (l : Nat) (Q : Exit → Act → World → Prop) (a' : Act) : Ending → World → Prop
  | .returned _, w₃ => ∃ w₄, (Instr.endLoop l).run P w₃ = .ok none w₄ ∧ Q .normal a' w₄
  | .panicked chain, w₃ => Q (.panic chain) a' w₃
  | .outgrown, _ => False

theorem wpB_rangeFunc {g : Operand} {ps : Array Tmp} {assign body : Code}
    (h : ∃ (l : Nat) (mark : List Deferred) (w₁ : World) (d : Deferred) (w₁' : World) (f : FuncId) (args : Array Value) (w₂ : World),
      (Instr.enterLoop f0 a.tmps ps assign body none).run P w = .ok (l, mark) w₁ ∧
      (resolve a.eval (rangeCall g l) 0).run P w₁ = .ok d w₁' ∧
      (invoke d.target d.args).run P w₁' = .ok (.enter f args) w₂ ∧
      CallsIn Fence.wide 0 P f args w₂ (rangePostB P l Q { a with defers := mark ++ a.defers })) :
    wpB P f0 (Code.rangeFunc g ps assign body) Q a w := by
  intro b k cs hro hb
  obtain ⟨l, mark, w₁, d, w₁', f, args, w₂, he, hres, hinv, hcall⟩ := h
  rw [← hro, ← hb] at he
  have h0 := fenced_wide P (lone (b.atR a (.code (.rangeFunc g ps assign body) :: k)) cs w)
  have henter := stepR_rangeFunc (P := P) (b := b) (a := a) (k := k) (cs := cs) (w := w) he hres hinv
  obtain ⟨e, w₃, fr, hR, hsteps, hfn, hleave⟩ := hcall.2 (b.atR { a with defers := mark ++ a.defers } (.inRangeFunc l :: k) :: cs) (room_wide _)
  cases e with
  | outgrown => exact hR.elim
  | returned v =>
    have hl := fenced_wide P (lone fr (b.atR { a with defers := mark ++ a.defers } (.inRangeFunc l :: k) :: cs) w₃)
    obtain ⟨w₄, hend, hj⟩ := hR
    refine ⟨.normal, _, w₄, hj, ?_⟩
    refine .head h0 henter (StepsIn.trans hsteps (.head hl ?_ (.one (fenced_wide P _) (stepR_endRangeFunc hend))))
    rw [← finish_atR_inRangeFunc l v]; exact step_leave_returned hleave
  | panicked chain =>
    have hl := fenced_wide P (lone fr (b.atR { a with defers := mark ++ a.defers } (.inRangeFunc l :: k) :: cs) w₃)
    refine ⟨.panic chain, _, w₃, hR, .inRangeFunc l :: k, .head h0 henter (StepsIn.trans hsteps (.one hl ?_))⟩
    rw [← Frame.raise_atR]; exact step_leave_panicked hleave

/-- A function's contract from its body, where the body holds a range over a function, a round of which may panic. -/
theorem calls_of_wpB {fn : Func} {c : Code} {args : Array Value} {R : Ending → World → Prop}
    (hf : P.funcs[f0]? = some fn) (hb : fn.body = some c)
    (h : wpB P f0 c (bodyPostM Fence.wide 0 P fn R) { tmps := args ++ Array.replicate (fn.ntmps - args.size) undef, defers := [] } w) : Calls P f0 args w R := by
  refine (callsIn_wide (n := 0)).1 ⟨trivial, fun cs hr => ?_⟩
  let b : Frame := { (default : Frame) with fn := f0, kind := .normal, roundOf := none }
  have henter : Frame.enter P f0 args .normal =
      b.atR { tmps := args ++ Array.replicate (fn.ntmps - args.size) undef, defers := [] } [.code c] := by
    simp [Frame.enter, Frame.atR, hf, hb, b]
  obtain ⟨e, a', w', hq, harr⟩ := h b [] cs rfl rfl
  rw [← henter] at harr
  cases e with
  | normal =>
    obtain ⟨e', w'', fr', hR, hs, hfn, hl⟩ := leaves_stepsInM (F := Fence.wide) (n := 0) a'.defers .returning w' { b.atR a' [] with mode := .returning } cs rfl rfl rfl hf rfl trivial hr hq
    exact ⟨e', w'', fr', hR, ComesIn.of_steps (StepsIn.trans harr (.one (fenced_wide P _) (stepR_end rfl))) hs, hfn, hl⟩
  | ret =>
    obtain ⟨todo, hs₀⟩ := harr.1 rfl
    obtain ⟨e', w'', fr', hR, hs, hfn, hl⟩ := leaves_stepsInM (F := Fence.wide) (n := 0) a'.defers .returning w' { b.atR a' todo with mode := .returning } cs rfl rfl rfl hf rfl trivial hr hq
    exact ⟨e', w'', fr', hR, ComesIn.of_steps hs₀ hs, hfn, hl⟩
  | panic chain =>
    obtain ⟨todo, hs₀⟩ := harr
    obtain ⟨e', w'', fr', hR, hs, hfn, hl⟩ := leaves_stepsInM (F := Fence.wide) (n := 0) a'.defers (.panicking chain) w' { b.atR a' todo with mode := .panicking chain } cs rfl rfl rfl hf rfl trivial hr hq
    exact ⟨e', w'', fr', hR, ComesIn.of_steps hs₀ hs, hfn, hl⟩
  | exit id => exact hq.elim
  | goto l => exact hq.elim
  | outgrown => exact ⟨.outgrown, w', b, hq, harr.resolve_left (by simp [b]), rfl, trivial⟩
end

/-- An iterator that may write the blocks of S, and reads those of S and R: what it owes for whatever rounds, one of which may panic. -/
def IterW {α : Type} (P : Program) (g : Nat) (lb : Array Value) (encs : α → Array Value) (S R : Nat → Prop) (xs : List α) (w : World) : Prop :=
  ∀ (l : Nat) (J : List α → World → Prop) (Jp : List PanicEntry → World → Prop) (W : World), Below w.heap.size w W →
    (∀ s V V', J s V → W.heap.size ≤ V.heap.size → But S V V' → J s V') →
    (∀ pre x post V, xs = pre ++ x :: post → J pre V → W.heap.size ≤ V.heap.size → YieldAt Fence.wide 0 P l (encs x) V fun e V' =>
      (e = .returned (.bool true) ∧ J (pre ++ [x]) V' ∧ V.heap.size ≤ V'.heap.size ∧ ∀ r, S r ∨ R r → V'.heap[r]? = V.heap[r]?) ∨ (∃ chain, e = .panicked chain ∧ Jp chain V')) →
    J [] W →
    Calls P g (#[.func (.yield l) #[] #[]] ++ lb) W fun e W' => (∃ v, e = .returned v ∧ J xs W') ∨ (∃ chain, e = .panicked chain ∧ Jp chain W')

/-- How a round's body may be left. -/
def roundOutP {α : Type} (K : Nat → Prop) (b : Nat) (I : List α → World → Prop) (Ip : List PanicEntry → World → Prop) (xs : List α) (w : World) : Exit → Act → World → Prop
  | .normal, _, w' => w.heap.size ≤ w'.heap.size ∧ (∀ r, K r ∨ (b ≤ r ∧ r < b + 2) → w'.heap[r]? = w.heap[r]?) ∧ I xs w'
  | .panic chain, a, w' => a.defers = [] ∧ (∀ r, b ≤ r → r < b + 2 → w'.heap[r]? = w.heap[r]?) ∧ Ip chain w'
  | .ret, _, _ => False
  | .exit _, _, _ => False
  | .goto _, _, _ => False
  | .outgrown, _, _ => False

section
variable {P : Program} {f0 : FuncId} {Q : Exit → Act → World → Prop} {a : Act} {w : World}
theorem wpIn_n {l n m : Nat} {c : Code} {Q : Exit → Act → World → Prop} {a : Act} {w : World} (h : c.wpIn (Fence.wide.inRound l) n P Q a w) : c.wpIn (Fence.wide.inRound l) m P Q a w :=
  fun b k cs hr hf _ => h b k cs hr hf (room_wide _)
/-- A loop over such an iterator. -/
theorem wpB_range_iterW {α : Type} {g : Operand} {ps : Array Tmp} {assign body : Code} (hfn : ∃ fn, P.funcs[f0]? = some fn)
    {gf : Nat} {lb : Array Value} (hg : a.eval g = .func (.func gf) #[] lb) (eg : ∀ args w, (callFunc gf args).run P w = .ok (.enter gf args) w)
    {encs : α → Array Value} {S R : Nat → Prop} {xs : List α} (hit : IterW P gf lb encs S R xs w) (hS : ∀ r, S r ∨ R r → r < w.heap.size) (hps : ∀ x, (encs x).size = ps.size)
    (I : List α → World → Prop) (Ip : List PanicEntry → World → Prop)
    (hI : ∀ s V V', I s V → w.heap.size ≤ V.heap.size → But (fun r => S r ∨ (w.heap.size ≤ r ∧ r < w.heap.size + 2)) V V' → I s V') (hIp : ∀ ch V V', Ip ch V → But (fun r => w.heap.size ≤ r ∧ r < w.heap.size + 2) V V' → Ip ch V') (h0 : I [] w)
    (Ax : α → Act → World → Prop) (hAx : ∀ x a' V V', Ax x a' V → But (fun r => w.heap.size ≤ r ∧ r < w.heap.size + 2) V V' → Ax x a' V')
    (hassign : ∀ (l : Nat) (pre : List α) (x : α) (V : World) (K : Act → World → Prop), I pre V → w.heap.size + 2 ≤ V.heap.size → (∀ a' V', Below V.heap.size V V' → Ax x a' V' → K a' V') →
      assign.wpIn (Fence.wide.inRound l) 5 P (Exit.then K (fun _ _ _ => False)) { tmps := (ps.zip (encs x)).foldl (fun t (p, v) => t.setIfInBounds p v) a.tmps, defers := [] } V)
    (hbody : ∀ (l : Nat) (pre post : List α) (x : α) (a' : Act) (V : World), xs = pre ++ x :: post → w.heap.size + 2 ≤ V.heap.size → I pre V → Ax x a' V →
      body.wpIn (Fence.wide.inRound l) 5 P (roundOutP (fun r => S r ∨ R r) w.heap.size I Ip (pre ++ [x]) V) a' V)
    (hdone : ∀ (D : Nat) (V : World), w.heap.size ≤ D → w.heap.size + 2 ≤ V.heap.size → I xs V → V.heap[D]? = some (.deferred (some [])) → Q .normal { a with defers := { target := .collected D, args := #[] } :: a.defers } V)
    (hpan : ∀ (D : Nat) (V : World) (chain : List PanicEntry), w.heap.size ≤ D → Ip chain V → V.heap[D]? = some (.deferred (some [])) → Q (.panic chain) { a with defers := { target := .collected D, args := #[] } :: a.defers } V) :
    wpB P f0 (Code.rangeFunc g ps assign body) Q a w := by
  refine wpB_rangeFunc ?_
  generalize hD : w.heap.size = D at *
  have key : ∃ rec : LoopState → Option Code → Loop, ∀ st pe, rec st pe = { state := st, pending := pe, fn := f0, tmps := a.tmps, params := ps, assign, body, defers := D } := ⟨_, fun _ _ => rfl⟩
  obtain ⟨rec, hrec⟩ := key
  have hst : ∀ st st' pe, { rec st pe with state := st' } = rec st' pe := fun st st' pe => by rw [hrec, hrec]
  obtain ⟨W1, hW1⟩ : ∃ W1, (w.alloc (.deferred (some []))).alloc (.loop (rec .ready none)) = W1 := ⟨_, rfl⟩
  have hs1 : W1.heap.size = D + 2 := by rw [← hW1]; simp [hD]
  have hD1 : W1.heap[D]? = some (.deferred (some [])) := by
    rw [← hW1, ← hD]; exact (Below.heap_alloc _ _ _ (by simp)).trans (World.alloc_heap_new w _)
  have hL1 : W1.heap[D + 1]? = some (.loop (rec .ready none)) := by
    rw [← hW1, ← hD]; have := World.alloc_heap_new (w.alloc (.deferred (some []))) (.loop (rec .ready none)); rwa [World.size_alloc] at this
  have hb1 : Below w.heap.size w W1 := by rw [← hW1]; exact ((Below.refl _ w).alloc (Nat.le_refl _) _).alloc (by simp) _
  have hI1 : I [] W1 := hI [] w W1 h0 (by rw [hD]; exact Nat.le_refl _) (.of_below hb1 (fun k hk _ => hk))
  have put2 : ∀ {V : World} (r : Nat) (o' : Obj), D ≤ r → r < D + 2 → But (fun r => D ≤ r ∧ r < D + 2) V (V.putObj r o') := fun {V} r o' h1 h2 => .of_grown (grownBy_putObj' V r o') (fun k e => by cases e; exact ⟨h1, h2⟩)
  refine ⟨D + 1, [{ target := .collected D, args := #[] }], W1, { target := .fn (.func gf) lb, args := #[.func (.yield (D + 1)) #[] #[]] }, W1, gf, #[.func (.yield (D + 1)) #[] #[]] ++ lb, W1, ?_, ?_, ?_, ?_⟩
  · have := run_enterLoop_outer (P := P) (w := w) f0 a.tmps ps assign body
    rw [← hW1, hrec]
    rw [hD] at this
    exact this
  · simp only [resolve, hg]
    simp [go_sem]
  · simp [invoke, go_sem, eg]
  · refine callsIn_wide.2 ((hit (D + 1) (fun pre V => I pre V ∧ V.heap[D + 1]? = some (.loop (rec .ready none)) ∧ V.heap[D]? = some (.deferred (some [])))
      (fun ch V => Ip ch V ∧ V.heap[D]? = some (.deferred (some []))) W1 hb1 ?_ ?_ ⟨hI1, hL1, hD1⟩).mono ?_)
    · rintro s V V' ⟨h1, h2, h3⟩ hsz hb
      rw [hs1] at hsz
      refine ⟨hI s V V' h1 (by omega) (hb.more fun k hk => .inl hk), ?_, ?_⟩
      · exact (hb.block _ (by omega) (fun hk => by have := hS _ (.inl hk); omega)).trans h2
      · exact (hb.block _ (by omega) (fun hk => by have := hS _ (.inl hk); omega)).trans h3
    · rintro pre x post V hx ⟨hi, hl, hd⟩ hsz
      rw [hs1] at hsz
      have hps' : (encs x).size = (rec .ready none).params.size := by rw [hrec]; exact hps x
      have hy := run_yield (P := P) (args := encs x) hl hps'
      refine ⟨_, _, _, _, hy, roundIn_of_wpIn_p trivial (by rw [hrec]; exact hfn) ?_⟩
      simp only [hrec]
      refine wpIn_n (n := 5) ?_
      refine hassign _ pre x V _ hi hsz ?_
      intro a' Va hbV hax
      have hla : Va.heap[D + 1]? = some (.loop (rec .ready none)) := (hbV.block _ (by omega)).trans hl
      have hda : Va.heap[D]? = some (.deferred (some [])) := (hbV.block _ (by omega)).trans hd
      have hia : I pre Va := hI pre V Va hi (by omega) (.of_below hbV (fun k hk _ => hk))
      have hsa : D + 2 ≤ Va.heap.size := Nat.le_trans hsz hbV.size
      have hbg := run_beginRound (P := P) hla (by rw [hrec])
      rw [hst] at hbg
      refine ⟨_, hbg, wpIn_n (n := 5) ?_⟩
      have hl2 : (Va.putObj (D + 1) (.loop (rec .busy none))).heap[D + 1]? = some (.loop (rec .busy none)) := World.putObj_heap_same (by omega)
      have hd2 : (Va.putObj (D + 1) (.loop (rec .busy none))).heap[D]? = some (.deferred (some [])) := (World.putObj_heap_other (by omega)).trans hda
      have hp2 := put2 (V := Va) (D + 1) (.loop (rec .busy none)) (by omega) (by omega)
      refine wpIn_mono (hbody _ pre post x a' _ hx (by simpa using hsa) (hI pre Va _ hia (by omega) (hp2.more fun k hk => .inr hk)) (hAx x a' Va _ hax hp2)) ?_
      rintro e a3 V3 hp
      cases e with
      | normal =>
        obtain ⟨hs3, hk3, hi3⟩ := hp
        have hl3 := (hk3 (D + 1) (.inr ⟨by omega, by omega⟩)).trans hl2
        have hd3 := (hk3 D (.inr ⟨by omega, by omega⟩)).trans hd2
        have he := run_endRound (P := P) none hl3
        have hr3 : ({ rec .busy none with state := LoopState.ready, pending := none } : Loop) = rec .ready none := by rw [hrec, hrec]
        simp only [Option.isNone_none, if_true] at he
        rw [hr3] at he
        refine ⟨_, _, he, .inl ⟨rfl, ⟨hI _ V3 _ hi3 (by simp at hs3; omega) ((put2 (D + 1) _ (by omega) (by omega)).more fun k hk => .inr hk), (World.putObj_heap_same (Array.getElem?_eq_some_iff.1 hl3).1).trans (by rw [hrec]), (World.putObj_heap_other (by omega)).trans hd3⟩, ?_, ?_⟩⟩
        · have := hbV.size; simp at hs3 ⊢; omega
        · intro r hr
          have hlt := hS r hr
          exact (World.putObj_heap_other (by omega)).trans ((hk3 r (.inl hr)).trans ((World.putObj_heap_other (by omega)).trans (hbV.block r (by omega))))
      | panic chain =>
        obtain ⟨hd0, hk3, hi3⟩ := hp
        exact ⟨hd0, .inr ⟨chain, rfl, hi3, (hk3 D (by omega) (by omega)).trans hd2⟩⟩
      | ret => exact hp.elim
      | exit id => exact hp.elim
      | goto t => exact hp.elim
      | outgrown => exact hp.elim
    · rintro e W2 (⟨v, rfl, hi, hl, hd⟩ | ⟨chain, rfl, hi, hd⟩)
      · have he := run_endLoop (P := P) hl (by rw [hrec]; simp)
        have hlt := (Array.getElem?_eq_some_iff.1 hl).1
        refine ⟨_, by rw [he, hrec], hdone D _ (Nat.le_refl _) (by simp; omega) (hI _ W2 _ hi (by omega) ((put2 (D + 1) _ (by omega) (by omega)).more fun k hk => .inr hk)) ((World.putObj_heap_other (by omega)).trans hd)⟩
      · exact hpan D _ chain (Nat.le_refl _) hi hd
end
end Go.Proofs.YtdfpifipkchmnaaGreatDoor
