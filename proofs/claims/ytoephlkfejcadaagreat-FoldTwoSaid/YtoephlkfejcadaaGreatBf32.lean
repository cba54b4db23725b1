/- Proved here: texts joined: SeqV, MgIt, LcsRow. -/
import Derived.Test.YtoephlkfejcadaaGreatBf18
import Derived.Test.YtoephlkfejcadaaGreatBf31
import Derived.Shelf.Abstract
import Derived.WalkKit
import Derived.OwnWalkIn
import Derived.TacticsInMore
import Derived.LoopNIn
import Derived.LoopIn
import Derived.RegionTactic
import Derived.BigRegion
import Derived.ChangeAlike
/- Proved here, without conditions on the program: a range over a function that yields values that it makes (what they are is told by a relation, at the time), no jump out of the rounds. -/
namespace Go.Proofs.YtoephlkfejcadaaGreat
open Go.RowKit
set_option linter.unusedVariables false

/-- What stays true whatever becomes of the k blocks behind block b. -/
def BidesO {β : Type} (b k : Nat) (J : β → World → Prop) : Prop := ∀ s w w' row, J s w → w.grownBy w' row → (∀ r, row = some r → b ≤ r ∧ r < b + k) → J s w'

/-- An iterator that makes what it yields: E x vs W0 W1 says that vs is x, told in W1, made since W0. -/
def IterS {α : Type} (F : Fence) (n : Nat) (P : Program) (g : Nat) (lb : Array Value) (E : α → Array Value → World → World → Prop) (R : Nat → Prop) (k : Nat) (xs : List α) (w : World) : Prop :=
  ∀ (l : Nat) (J : List α → World → Prop) (W : World), Below w.heap.size w W → BidesO W.heap.size k J →
    (∀ pre x vs W0 W1, J pre W0 → W.heap.size + k ≤ W0.heap.size → Below W0.heap.size W0 W1 → E x vs W0 W1 → (∃ post, xs = pre ++ x :: post) → YieldAt F (n - 1) P l vs W1 fun e W' =>
      e = .returned (.bool true) ∧ J (pre ++ [x]) W' ∧ Leaves R W.heap.size k W1 W') →
    J [] W →
    CallsIn F n P g (#[.func (.yield l) #[] #[]] ++ lb) W fun e W' => (∃ v, e = .returned v) ∧ J xs W'

section
variable {β : Type} {b k : Nat} {J J' : β → World → Prop} {R : Nat → Prop} {w w' w'' : World}
theorem BidesO.alloc (h : BidesO b k J) {s : β} (hs : J s w) (o : Obj) : J s (w.alloc o) := h s w _ none hs (World.grownBy_alloc w o none) (by simp)
theorem BidesO.putObj (h : BidesO b k J) {s : β} {r : Nat} (hs : J s w) (hb : b ≤ r) (hr : r < b + k) (o' : Obj) : J s (w.putObj r o') :=
  h s w _ (some r) hs (grownBy_putObj' w r o') (fun q e => by cases e; exact ⟨hb, hr⟩)
theorem BidesO.below (h : BidesO b k J) {s : β} (hs : J s w) (hb : Below w.heap.size w w') : J s w' := h s w _ none hs ⟨hb.os, hb.tape, hb.output, hb.size, fun q hq _ => hb.block q hq⟩ (by simp)
theorem BidesO.sub {b' k' : Nat} (h : BidesO b k J) (hb : b ≤ b') (hk : b' + k' ≤ b + k) : BidesO b' k' J := fun s w w' row hs hg hr => h s w w' row hs hg fun r e => by
  obtain ⟨h1, h2⟩ := hr r e
  exact ⟨by omega, by omega⟩
end

/-- How a round's body may be left. -/
def roundOutS {α : Type} (R : Nat → Prop) (b k : Nat) (I : List α → World → Prop) (xs : List α) (w : World) : Exit → Act → World → Prop
  | .normal, _, w' => Leaves R b k w w' ∧ I xs w'
  | .ret, _, _ => False
  | .exit _, _, _ => False
  | .goto _, _, _ => False
  | .panic _, _, _ => False
  | .outgrown, _, _ => False

variable {F : Fence} {n : Nat} {P : Program}

/-- A loop over an iterator with state of its own: no jump out of its rounds. -/
theorem wpIn_range_iterS {α : Type} {g : Operand} {ps : Array Tmp} {assign body : Code} {Q : Exit → Act → World → Prop} {a : Act} {w : World}
    (hro : F.round = none) (h1 : 1 ≤ n) {gf : Nat} {lb : Array Value} (hg : a.eval g = .func (.func gf) #[] lb) (hFg : F.fn gf) (eg : ∀ args w, (callFunc gf args).run P w = .ok (.enter gf args) w)
    {E : α → Array Value → World → World → Prop} {R : Nat → Prop} {k : Nat} {xs : List α} (hit : IterS F (n - 1) P gf lb E R k xs w) (hR : ∀ r, R r → r < w.heap.size) (hps : ∀ x vs W0 W1, E x vs W0 W1 → vs.size = ps.size)
    (I : List α → World → Prop) (hIa : BidesO w.heap.size (2 + k) I) (h0 : I [] w)
    (Ax : α → Act → World → Prop) (hAxa : ∀ x a', BidesO w.heap.size (2 + k) (fun (_ : Unit) W => Ax x a' W))
    (hassign : ∀ (l : Nat) (pre : List α) (x : α) (vs : Array Value) (W0 W : World) (K : Act → World → Prop), I pre W0 → w.heap.size + 2 + k ≤ W0.heap.size → Below W0.heap.size W0 W → E x vs W0 W → (∀ a' W', Below W.heap.size W W' → Ax x a' W' → K a' W') →
      assign.wpIn (F.inRound l) (n - 1 - 1) P (Exit.then K (fun _ _ _ => False)) { tmps := (ps.zip vs).foldl (fun t (p, v) => t.setIfInBounds p v) a.tmps, defers := [] } W)
    (hbody : ∀ (l : Nat) (pre post : List α) (x : α) (a' : Act) (W : World), xs = pre ++ x :: post → w.heap.size + 2 + k ≤ W.heap.size → I pre W → Ax x a' W →
      body.wpIn (F.inRound l) (n - 1 - 1) P (roundOutS R w.heap.size (2 + k) I (pre ++ [x]) W) a' W)
    (hdone : ∀ (D : Nat) (W : World), w.heap.size ≤ D → w.heap.size + 2 ≤ W.heap.size → I xs W → W.heap[D]? = some (.deferred (some [])) → Q .normal { a with defers := { target := .collected D, args := #[] } :: a.defers } W) :
    (Code.rangeFunc g ps assign body).wpIn F n P Q a w := by
  have hI : BidesO (w.heap.size + 2) k I := hIa.sub (by omega) (by omega)
  have hI2 : BidesO w.heap.size 2 I := hIa.sub (by omega) (by omega)
  have hAx : ∀ x a', BidesO w.heap.size 2 (fun (_ : Unit) W => Ax x a' W) := fun x a' => (hAxa x a').sub (by omega) (by omega)
  clear hIa hAxa
  refine wpIn_rangeFunc ?_
  intro fn hfn
  rw [hro]
  generalize hD : w.heap.size = D at *
  have key : ∃ rec : LoopState → Option Code → Loop, ∀ st pe, rec st pe = { state := st, pending := pe, fn, tmps := a.tmps, params := ps, assign, body, defers := D } := ⟨_, fun _ _ => rfl⟩
  obtain ⟨rec, hrec⟩ := key
  have hst : ∀ st st' pe, { rec st pe with state := st' } = rec st' pe := fun st st' pe => by rw [hrec, hrec]
  obtain ⟨W1, hW1⟩ : ∃ W1, (w.alloc (.deferred (some []))).alloc (.loop (rec .ready none)) = W1 := ⟨_, rfl⟩
  have hs1 : W1.heap.size = D + 2 := by rw [← hW1]; simp [hD]
  have hD1 : W1.heap[D]? = some (.deferred (some [])) := by
    rw [← hW1, ← hD]; exact (Below.heap_alloc _ _ _ (by simp)).trans (World.alloc_heap_new w _)
  have hL1 : W1.heap[D + 1]? = some (.loop (rec .ready none)) := by
    rw [← hW1, ← hD]; have := World.alloc_heap_new (w.alloc (.deferred (some []))) (.loop (rec .ready none)); rwa [World.size_alloc] at this
  have hI1 : I [] W1 := by rw [← hW1]; exact hI.alloc (hI.alloc h0 _) _
  have hb1 : Below w.heap.size w W1 := by rw [← hW1]; exact ((Below.refl _ w).alloc (Nat.le_refl _) _).alloc (by simp) _
  -- the two blocks of book-keeping, and what the body says, together
  have two : ∀ {Z : List α → World → Prop} (st : LoopState) (pe : Option Code), BidesO (D + 2) k Z → BidesO W1.heap.size k (fun pre W => Z pre W ∧ W.heap[D + 1]? = some (.loop (rec st pe)) ∧ W.heap[D]? = some (.deferred (some []))) := by
    intro Z st pe hZ s A B row hs hgr hr
    rw [hs1] at hr
    refine ⟨hZ s A B row hs.1 hgr hr, ?_, ?_⟩
    · refine (hgr.block _ (Array.getElem?_eq_some_iff.1 hs.2.1).1 (fun e => ?_)).trans hs.2.1
      have := (hr _ e.symm).1; omega
    · refine (hgr.block _ (Array.getElem?_eq_some_iff.1 hs.2.2).1 (fun e => ?_)).trans hs.2.2
      have := (hr _ e.symm).1; omega
  have put : ∀ {Z : List α → World → Prop} {pre : List α} {W : World} (o' : Obj), BidesO D 2 Z → Z pre W → Z pre (W.putObj (D + 1) o') := fun o' hZ hz => hZ.putObj hz (by omega) (by omega) o'
  refine ⟨D + 1, [{ target := .collected D, args := #[] }], W1, { target := .fn (.func gf) lb, args := #[.func (.yield (D + 1)) #[] #[]] }, W1, gf, #[.func (.yield (D + 1)) #[] #[]] ++ lb, W1, ?_, ?_, ?_, ?_, fun _ => h1, ?_⟩
  · have := run_enterLoop_outer (P := P) (w := w) fn a.tmps ps assign body
    rw [← hW1, hrec]
    rw [hD] at this
    exact this
  · simp only [resolve, hg]
    simp [go_sem]
  · intro f' hf'
    simp [Target.leads] at hf'
    subst hf'
    exact hFg
  · simp [invoke, go_sem, eg]
  · refine (hit (D + 1) (fun pre W => I pre W ∧ W.heap[D + 1]? = some (.loop (rec .ready none)) ∧ W.heap[D]? = some (.deferred (some []))) W1 hb1 (two _ _ hI) ?_ ⟨hI1, hL1, hD1⟩).mono ?_
    · rintro pre x vs W0 W ⟨hi, hl0, hd0⟩ hsz hb01 hE ⟨post, hx⟩
      rw [hs1] at hsz ⊢
      have hl : W.heap[D + 1]? = some (.loop (rec .ready none)) := (hb01.block _ (by omega)).trans hl0
      have hd : W.heap[D]? = some (.deferred (some [])) := (hb01.block _ (by omega)).trans hd0
      have hszW := hb01.size
      have hps' : vs.size = (rec .ready none).params.size := by rw [hrec]; exact hps x vs W0 W hE
      have hy := run_yield (P := P) (args := vs) hl hps'
      refine ⟨_, _, _, _, hy, roundIn_of_wpIn (by rw [hrec]; exact hfn) ?_⟩
      simp only [hrec]
      refine hassign _ pre x vs W0 W _ hi hsz hb01 hE ?_
      intro a' Wa hbW hax
      have hla : Wa.heap[D + 1]? = some (.loop (rec .ready none)) := (hbW.block _ (by omega)).trans hl
      have hda : Wa.heap[D]? = some (.deferred (some [])) := (hbW.block _ (by omega)).trans hd
      have hia : I pre Wa := hI.below hi (hb01.trans (hbW.mono hszW))
      have hsa : D + 2 + k ≤ Wa.heap.size := by have := hbW.size; omega
      have hbg := run_beginRound (P := P) hla (by rw [hrec])
      rw [hst] at hbg
      refine ⟨_, hbg, ?_⟩
      have hl2 : (Wa.putObj (D + 1) (.loop (rec .busy none))).heap[D + 1]? = some (.loop (rec .busy none)) := World.putObj_heap_same (by omega)
      have hd2 : (Wa.putObj (D + 1) (.loop (rec .busy none))).heap[D]? = some (.deferred (some [])) := (World.putObj_heap_other (by omega)).trans hda
      refine wpIn_mono (hbody _ pre post x a' _ hx (by simpa using hsa) (put _ hI2 hia) ((hAx x a').putObj (s := ()) hax (by omega) (by omega) _)) ?_
      rintro e a3 W3 hp
      cases e with
      | normal =>
        obtain ⟨hlv, hi3⟩ := hp
        have hl3 := hlv.rest _ _ (by omega) hl2 rfl
        have hd3 := hlv.rest _ _ (by omega) hd2 rfl
        have he := run_endRound (P := P) none hl3
        have hr3 : ({ rec .busy none with state := (if (none : Option Code).isNone then LoopState.ready else .done), pending := none } : Loop) = rec .ready none := by rw [hrec, hrec]; rfl
        rw [hr3] at he
        refine ⟨_, _, he, rfl, ⟨put _ hI2 hi3, (World.putObj_heap_same (Array.getElem?_eq_some_iff.1 hl3).1).trans (by rw [hrec]), (World.putObj_heap_other (by omega)).trans hd3⟩, ?_, ?_, ?_⟩
        · have := hlv.size; have := hbW.size; simp at *; omega
        · intro r hr hRr
          have hne : r ≠ D + 1 := by
            rcases hRr with h | h
            · have := hR r h; omega
            · omega
          have h4 := hlv.kept r (by have := hbW.size; simp; omega) (by rcases hRr with h | h; exact .inl h; exact .inr (by omega))
          exact ((World.putObj_heap_other hne).trans h4).trans ((World.putObj_heap_other hne).trans (hbW.block r hr))
        · intro r o hr ho hoc
          have hne : r ≠ D + 1 := by omega
          exact (World.putObj_heap_other hne).trans (hlv.rest r o (by omega) ((World.putObj_heap_other hne).trans ((hbW.block r (Array.getElem?_eq_some_iff.1 ho).1).trans ho)) hoc)
      | ret => exact hp.elim
      | exit id => exact hp.elim
      | goto t => exact hp.elim
      | panic ch => exact hp.elim
      | outgrown => exact hp.elim
    · rintro e W2 ⟨⟨v, rfl⟩, hi, hl, hd⟩
      have he := run_endLoop (P := P) hl (by rw [hrec]; simp)
      refine ⟨none, _, by rw [he, hrec], hdone D _ (Nat.le_refl _) (by have := (Array.getElem?_eq_some_iff.1 hl).1; simp; omega) (put _ hI2 hi) ((World.putObj_heap_other (by omega)).trans hd)⟩
end Go.Proofs.YtoephlkfejcadaaGreat
/- Proved here: the contracts of the landed merge.mayResolve, pieces, and of the iterator that pieces tells. -/
namespace Go.Proofs.YtoephlkfejcadaaGreat
open Go.RowKit Go.Shelf
set_option linter.unusedVariables false
set_option maxRecDepth 100000
attribute [local go_sem] Oper.semAt_some

/-- Whether conflicts may be resolved so. -/
def mayHow (fav : Int) (un : Bool) (n : Nat) : Bool := decide (0 ≤ fav ∧ fav ≤ n ∧ (fav = 0 ∨ un = false))
set_option maxHeartbeats 1000000 in
theorem mayHow_any (fav : Int) (un : Bool) (n : Nat) (w : World) :
    Calls Tryz.prog 30 #[.agg #[.int .i64 fav, .bool un], .int .i64 n] w fun e w' => e = .returned (.bool (mayHow fav un n)) ∧ Below w.heap.size w w' := by
  have hb : Below w.heap.size w (w.alloc (.cells #[.int .i64 fav, .bool un] 36)) := (Below.refl _ _).alloc (Nat.le_refl _) _
  have hbh := Lib.hid hb
  obtain ⟨r, hr⟩ : ∃ r, mayHow fav un n = r := ⟨_, rfl⟩
  rw [hr]
  have hrh := Lib.hid hr
  clear hb hr
  by_cases h0 : fav = 0
  · subst h0
    have hr1 : Hid (r = true) := Lib.hid (by rw [← hrh.out]; simp [mayHow])
    have e1 : ((0 : Int) != 0) = false := by decide
    go_enter Tryz.func30, Tryz.ntmps30
    go_wp2
    go_ret
    exact ⟨ret_bool (by rw [hr1.out]), hbh.out⟩
  · have e1 : (fav != 0) = true := by simpa using h0
    have e2 : ¬ fav = 0 := h0
    cases un
    · by_cases h1 : 0 ≤ fav
      · have hr1 : Hid (r = decide (fav ≤ (n : Int))) := Lib.hid (by rw [← hrh.out]; simp [mayHow, h1])
        have e3 : decide ((0 : Int) ≤ fav) = true := by simpa using h1
        clear h0
        go_enter Tryz.func30, Tryz.ntmps30
        go_wp2
        all_goals (go_ret; exact ⟨ret_bool (by rw [hr1.out]), hbh.out⟩)
      · have hr1 : Hid (r = false) := Lib.hid (by rw [← hrh.out]; simp [mayHow, h1])
        have e3 : decide ((0 : Int) ≤ fav) = false := by simpa using h1
        clear h0
        go_enter Tryz.func30, Tryz.ntmps30
        go_wp2
        all_goals (go_ret; exact ⟨ret_bool (by rw [hr1.out]), hbh.out⟩)
    · have hr1 : Hid (r = false) := Lib.hid (by rw [← hrh.out]; simp [mayHow, e2])
      clear h0
      go_enter Tryz.func30, Tryz.ntmps30
      go_wp2
      go_ret
      exact ⟨ret_bool (by rw [hr1.out]), hbh.out⟩

theorem pieces_any (Ac : Option Addr) (nc cc : Nat) (A0 : Option Addr) (n0 c0 : Nat) (A : Option Addr) (n c : Nat) (fav : Int) (un : Bool) (w : World) :
    Calls Tryz.prog 31 #[.slice Ac nc cc, .slice A0 n0 c0, .slice A n c, .agg #[.int .i64 fav, .bool un]] w fun e w' =>
      e = .returned (.func (.func 49) #[] #[.pointer (some ⟨w.heap.size, 0, none⟩), .pointer (some ⟨w.heap.size + 1, 0, none⟩), .pointer (some ⟨w.heap.size + 1 + 1, 0, none⟩), .pointer (some ⟨w.heap.size + 1 + 1 + 1, 0, none⟩)]) ∧
      w' = (((w.alloc (.cells #[.slice Ac nc cc] 46)).alloc (.cells #[.slice A0 n0 c0] 22)).alloc (.cells #[.slice A n c] 23)).alloc (.cells #[.int .i64 fav, .bool un] 36) := by
  go_enter Tryz.func31, Tryz.ntmps31
  go_wp2
  go_ret
  exact ⟨rfl, rfl⟩

/-- What the iterator yields: a piece that stands. -/
def YieldP (lo : Nat) (x : Pc) (vs : Array Value) (W0 W1 : World) : Prop := ∃ v : PcV, vs = #[pcA x.1 v] ∧ ∀ w2, But (fun k => lo ≤ k ∧ k < W0.heap.size) W1 w2 → PcR w2 w2.heap.size v x
/-- The blocks that it reads. -/
def ReadP (lo Bx r : Nat) : Prop := r < lo ∨ (Bx ≤ r ∧ r < Bx + 4)

/-- What the iterator's variables hold. -/
structure HoldsP (w : World) (lo Bx : Nat) (Ac : Option Addr) (nc cc : Nat) (cs : List Ck) (A0 : Option Addr) (n0 c0 : Nat) (base : Txs) (A : Option Addr) (n c : Nat) (rows : List Slc) (sides : List Txs) (fav : Int) (un : Bool) : Prop where
  b0 : w.heap[Bx]? = some (.cells #[.slice Ac nc cc] 46 (0, 0))
  b1 : w.heap[Bx + 1]? = some (.cells #[.slice A0 n0 c0] 22 (0, 0))
  b2 : w.heap[Bx + 2]? = some (.cells #[.slice A n c] 23 (0, 0))
  b3 : w.heap[Bx + 3]? = some (.cells #[.int .i64 fav, .bool un] 36 (0, 0))
  far : lo ≤ Bx
  cks : Cks w lo Ac nc cs
  tbase : TxR w lo (A0, n0, c0) base
  trows : RowsT w lo A n rows sides
theorem HoldsP.left {w w' : World} {lo Bx : Nat} {Ac : Option Addr} {nc cc : Nat} {cs : List Ck} {A0 : Option Addr} {n0 c0 : Nat} {base : Txs} {A : Option Addr} {n c : Nat} {rows : List Slc} {sides : List Txs} {fav : Int} {un : Bool}
    (h : HoldsP w lo Bx Ac nc cc cs A0 n0 c0 base A n c rows sides fav un) (hk : ∀ r, r < w.heap.size → ReadP lo Bx r → w'.heap[r]? = w.heap[r]?) : HoldsP w' lo Bx Ac nc cc cs A0 n0 c0 base A n c rows sides fav un := by
  have l3 := (Array.getElem?_eq_some_iff.1 h.b3).1
  have hl := h.far
  have key : ∀ p : Addr, p.block < lo → w'.cell? p = w.cell? p := fun p hp => World.cell?_of_block (hk p.block (by omega) (.inl hp))
  exact ⟨(hk _ (by omega) (.inr ⟨by omega, by omega⟩)).trans h.b0, (hk _ (by omega) (.inr ⟨by omega, by omega⟩)).trans h.b1, (hk _ (by omega) (.inr ⟨by omega, by omega⟩)).trans h.b2, (hk _ (by omega) (.inr ⟨by omega, by omega⟩)).trans h.b3, hl, h.cks.keep key, h.tbase.keep key, h.trows.keep key⟩

set_option maxHeartbeats 4000000 in
theorem pieces_iter (N : Nat) (hN : 1 ≤ N) (lo Bx : Nat) (Ac : Option Addr) (nc cc : Nat) (cs : List Ck) (A0 : Option Addr) (n0 c0 : Nat) (base : Txs) (A : Option Addr) (n c : Nat) (rows : List Slc) (sides : List Txs) (fav : Int) (un : Bool) (w : World)
    (hnc : nc ≤ 1000) (hn : n ≤ 100) (hfav : inR64 fav) (hsm : smallM base sides) (h : HoldsP w lo Bx Ac nc cc cs A0 n0 c0 base A n c rows sides fav un)
    (hp : ∀ c ∈ cs, partErr c base sides = 0 ∧ partBase c base sides = cutB c base ∧ partSides c base sides = cutsP c sides) :
    IterS Fence.wide N Tryz.prog 49 #[.pointer (some ⟨Bx, 0, none⟩), .pointer (some ⟨Bx + 1, 0, none⟩), .pointer (some ⟨Bx + 1 + 1, 0, none⟩), .pointer (some ⟨Bx + 1 + 1 + 1, 0, none⟩)] (YieldP lo) (ReadP lo Bx) 0 (cs.map (pcOf base sides fav un)) w := by
  intro l J W hbW hJ hY h0
  have hl3 := (Array.getElem?_eq_some_iff.1 h.b3).1
  have hW : HoldsP W lo Bx Ac nc cc cs A0 n0 c0 base A n c rows sides fav un := h.left fun r hr _ => hbW.block r hr
  have hWsz := hbW.size
  have hlen := hW.cks.1
  have g0 : W.cell? ⟨Bx, 0, none⟩ = some (.slice Ac nc cc) := by rw [cells_of hW.b0]; rfl
  have hWh := Lib.hid hW
  have hph := Lib.hid hp
  have hsmh := Lib.hid hsm
  have hlenh := Lib.hid hlen
  clear h hW hp hsm hlen
  refine callsIn_of_wp Tryz.func49 rfl trivial ?_ rfl
  simp only [Tryz.ntmps49, List.size_toArray, List.length_cons, List.length_nil, Nat.reduceAdd, Nat.reduceSub, Array.replicate_succ, Array.replicate_zero, List.push_toArray, List.append_toArray, List.nil_append, List.cons_append]
  gi_wp2
  gi_loopw [7, 10] (fun s7 i wr => ∃ k : Nat, k ≤ nc ∧ i = .int .i64 k ∧ J ((cs.take k).map (pcOf base sides fav un)) wr ∧ Leaves (ReadP lo Bx) W.heap.size 0 W wr)
    (fun s7 i _ => nc - (intOf i).toNat)
  case atStart => exact ⟨0, Nat.zero_le _, rfl, h0, Leaves.refl _ _ _ _⟩
  case round =>
    obtain ⟨k, hk, rfl, hJs, hlv⟩ := hrel
    obtain ⟨wo, rfl⟩ : ∃ wo : World, wo = wr := ⟨_, rfl⟩
    have hHo : HoldsP wo lo Bx Ac nc cc cs A0 n0 c0 base A n c rows sides fav un := hWh.out.left fun r hr hR => hlv.kept r hr (.inl hR)
    by_cases hlt : k < nc
    · obtain ⟨b, o, ck, A1, n1, c1, rfl, hb, hck, x0, x1, x2, x3, hn1, hc1, hS⟩ := hHo.cks.at_ (k := k) hlt
      obtain ⟨st, ⟨f, t⟩, spans⟩ := ck
      dsimp only at x0 x1 x2 hS
      have hi1 : (0 : Int) ≤ (k : Int) := by omega
      have hi2 : (k : Int) < (nc : Int) := by omega
      have hsz := hlv.size
      obtain ⟨Wa, hWa⟩ : ∃ Wa, Wa = wo.alloc (.cells #[.bool st, .int .i64 f, .int .i64 t, .slice A1 n1 c1] 91) := ⟨_, rfl⟩
      have hba : Below wo.heap.size wo Wa := by rw [hWa]; exact (Below.refl _ _).alloc (Nat.le_refl _) _
      have hHa : HoldsP Wa lo Bx (some ⟨b, o, none⟩) nc cc cs A0 n0 c0 base A n c rows sides fav un := hHo.left fun r hr _ => hba.block r hr
      have hloW : lo ≤ Wa.heap.size := by have := hHa.far; have := (Array.getElem?_eq_some_iff.1 hHa.b3).1; omega
      have hPc := Lib.hid (pieceM_any lo st f t spans A1 n1 c1 A0 n0 c0 base A n c rows sides fav un Wa hn hfav (Nat.le_trans hn1 hc1) hsmh.out hloW (((hS.keep fun p hp => World.cell?_of_block (hba.block p.block (by have := hHo.far; have := (Array.getElem?_eq_some_iff.1 hHo.b3).1; omega)))).more hloW) hHa.tbase (hHa.trows.more hloW) (hph.out _ (List.mem_of_getElem? hck)))
      have z1 : wo.cell? ⟨Bx + 1, 0, none⟩ = some (.slice A0 n0 c0) := by rw [cells_of hHo.b1]; rfl
      have z2 : wo.cell? ⟨Bx + 1 + 1, 0, none⟩ = some (.slice A n c) := by rw [cells_of hHo.b2]; rfl
      have z3 : wo.cell? ⟨Bx + 1 + 1 + 1, 0, none⟩ = some (.int .i64 fav) := by rw [cells_of hHo.b3]; rfl
      have z4 : wo.cell? ⟨Bx + 1 + 1 + 1, 1, none⟩ = some (.bool un) := by rw [cells_of hHo.b3]; rfl
      have s1 : Bx + 1 < wo.heap.size := (Array.getElem?_eq_some_iff.1 hHo.b1).1
      have s2 : Bx + 1 + 1 < wo.heap.size := (Array.getElem?_eq_some_iff.1 hHo.b2).1
      have s3 : Bx + 1 + 1 + 1 < wo.heap.size := (Array.getElem?_eq_some_iff.1 hHo.b3).1
      have hck2 := Lib.hid hck
      have hsza : wo.heap.size ≤ Wa.heap.size := hba.size
      have hYw := Lib.hid (fun (w1 : World) (v : PcV) (hst : ∀ w2, But (fun k => lo ≤ k ∧ k < Wa.heap.size) w1 w2 → PcR w2 w2.heap.size v (pcOf base sides fav un (st, (f, t), spans))) (hb1 : Below Wa.heap.size Wa w1) => hY ((cs.take k).map (pcOf base sides fav un)) (pcOf base sides fav un (st, (f, t), spans)) #[pcA (pcOf base sides fav un (st, (f, t), spans)).1 v] wo w1 hJs (by omega) (hba.trans (hb1.mono hsza)) ⟨v, rfl, fun w2 h2 => hst w2 (h2.more fun j hj => ⟨hj.1, by have := hj.2; omega⟩)⟩
        ⟨(cs.drop (k + 1)).map (pcOf base sides fav un), by rw [← List.map_cons, ← List.map_append, ← drop_at hck2.out, List.take_append_drop]⟩)
      have hnx := Lib.hid (show (cs.take (k + 1)).map (pcOf base sides fav un) = (cs.take k).map (pcOf base sides fav un) ++ [pcOf base sides fav un (st, (f, t), spans)] by rw [take_at hck2.out, List.map_append]; rfl)
      have hbah := Lib.hid hba
      have hlvh := Lib.hid hlv
      clear hck hS hHo hHa hba hloW hJs hsza
      subst hWa
      gi_wp2_with (refine ⟨trivial, ?_⟩; gi_at_call 50; refine (callsIn_wide.2 hPc.out).mono ?_; rintro e w1 ⟨v, rfl, hst, hb1⟩; obtain ⟨fn, tmps, assign, body, hy, hR⟩ := hYw.out w1 v hst hb1; have hb1h := Lib.hid hb1; clear hst hb1)
      refine hR.mono ?_
      rintro e W3 ⟨rfl, hJ3, hk3⟩
      gi_wp2
      go_roundw
      case rel => exact ⟨k + 1, by omega, by simp, by rw [hnx.out]; exact hJ3, hlvh.out.trans ((Leaves.below hbah.out).trans ((Leaves.below hb1h.out).trans hk3))⟩
      case measure => simp [intOf]; omega
    · obtain rfl : k = nc := by omega
      gi_wp2
      go_end0
      exact ⟨⟨_, rfl⟩, by rw [List.take_of_length_le (by rw [hlenh.out]; exact Nat.le_refl _)] at hJs; exact hJs⟩
end Go.Proofs.YtoephlkfejcadaaGreat
/- Proved here: the contract of package lcs' measureRow: one row of the reckoning, out of the row behind it. -/
namespace Go.Proofs.YtoephlkfejcadaaGreat
open Go.RowKit
set_option linter.unusedVariables false

theorem infoBool : (Tryz.prog.info? 4).map (fun i => (i.zero, i.size, i.bytes)) = some (some (.bool false), 1, 1) := by kernel_rfl

/-- Whether a's place i is what is skipped, where i and j are not the same. -/
def skipAt (a b : List Int) (i j : Nat) : Bool := decide (lcsAt a b i (j + 1) ≤ lcsAt a b (i + 1) j)

/-- One row of the reckoning, as far as it has come: from J on. -/
structure RowIn (w wr : World) (P Q n' i J : Nat) (a b : List Int) (g : Nat → Int) : Prop where
  row : wr.rowIs P 3 (n' + 1) (fun t => .int .i64 (if J ≤ t then (lcsAt a b i t : Int) else g t))
  next : wr.rowIs Q 3 (n' + 1) (fun t => .int .i64 (lcsAt a b (i + 1) t))
  skips : wr.rowIs w.heap.size 4 n' (fun t => .bool (decide (J ≤ t) && skipAt a b i t))
  but : But (fun k => k = P) w wr

section
variable {w wr : World} {P Q n' i q J : Nat} {a b : List Int} {g : Nat → Int}
theorem RowIn.drew (h : RowIn w wr P Q n' i J a b g) : RowIn w wr.drew P Q n' i J a b g := ⟨h.row, h.next, h.skips, ⟨h.but.os, h.but.tape, h.but.output, h.but.size, h.but.block⟩⟩
theorem RowIn.step (hPw : P < w.heap.size) (hQw : Q < w.heap.size) (hPQ : P ≠ Q) (h : RowIn w wr P Q n' i (q + 1) a b g) {s : Bool} {v : Nat} (hs : s = skipAt a b i q) (hv : v = lcsAt a b i q) :
    RowIn w ((wr.setCell ⟨w.heap.size, q, none⟩ (.bool s)).setCell ⟨P, q, none⟩ (.int .i64 v)) P Q n' i q a b g := by
  subst hs
  subst hv
  refine ⟨?_, ?_, ?_, ?_⟩
  · refine ((h.row.setOther (a := ⟨w.heap.size, q, none⟩) (by show P ≠ w.heap.size; omega) _).set q _).congr fun t _ => ?_
    by_cases e : t = q
    · subst e; simp
    · rw [if_neg e]
      by_cases h1 : q + 1 ≤ t
      · rw [if_pos h1, if_pos (by omega)]
      · rw [if_neg h1, if_neg (by omega)]
  · exact (h.next.setOther (a := ⟨w.heap.size, q, none⟩) (by show Q ≠ w.heap.size; omega) _).setOther (a := ⟨P, q, none⟩) (fun e => hPQ e.symm) _
  · refine ((h.skips.set q _).setOther (a := ⟨P, q, none⟩) (by show w.heap.size ≠ P; omega) _).congr fun t _ => ?_
    by_cases e : t = q
    · subst e; simp
    · rw [if_neg e]
      by_cases h1 : q + 1 ≤ t
      · simp [h1, show q ≤ t by omega]
      · simp [h1, show ¬ q ≤ t by omega]
  · have h1 := But.setCell (F := fun k => k = w.heap.size) wr (p := ⟨w.heap.size, q, none⟩) rfl (.bool (skipAt a b i q))
    have h2 := But.setCell (F := fun k => k = P) (wr.setCell ⟨w.heap.size, q, none⟩ (.bool (skipAt a b i q))) (p := ⟨P, q, none⟩) rfl (.int .i64 (lcsAt a b i q))
    exact (h.but.trans h1 fun k e => .inr (by omega)).trans h2 fun k e => .inl e
end

/-- What measureRow leaves. -/
def RowOut (w w' : World) (e : Ending) (P n' i : Nat) (a b : List Int) : Prop :=
  e = .returned (.slice (some ⟨w.heap.size, 0, none⟩) n' n') ∧ w'.rowIs P 3 (n' + 1) (fun t => .int .i64 (lcsAt a b i t)) ∧ w'.rowIs w.heap.size 4 n' (fun t => .bool (skipAt a b i t)) ∧ But (fun k => k = P) w w'

set_option maxRecDepth 100000 in
set_option maxHeartbeats 2000000 in
theorem row_any (A' : Option Addr) (n' c' B' P Q cP cQ i : Nat) (x : Int) (a b : List Int) (g : Nat → Int) (w : World) (hn' : n' ≤ 2000) (hla : a.length ≤ 2000) (hx : a[i]? = some x) (hA' : Nums w B' A' n' b) (hB' : B' ≤ P) (hPQ : P ≠ Q)
    (hP : w.rowIs P 3 (n' + 1) (fun t => .int .i64 (g t))) (hg : g n' = 0) (hQ : w.rowIs Q 3 (n' + 1) (fun t => .int .i64 (lcsAt a b (i + 1) t))) :
    Calls Tryz.prog 116 #[.int .i64 x, .slice A' n' c', .slice (some ⟨P, 0, none⟩) (n' + 1) cP, .slice (some ⟨Q, 0, none⟩) (n' + 1) cQ] w fun e w' => RowOut w w' e P n' i a b := by
  have hl' := hA'.len
  have hPw := hP.lt
  have hQw := hQ.lt
  have hmk := run_make_row' (P := Tryz.prog) 168 4 (.bool false) 1 Tryz.underlying168 infoBool rfl .i64 .i64 n' (by omega) (by omega)
  have h0 : RowIn w (w.alloc (.cells (madeCells #[.bool false] n') 4)) P Q n' i n' a b g := by
    refine ⟨(hP.alloc _).congr fun t ht => ?_, hQ.alloc _, (World.rowIs_made w (.bool false) n' 4).congr fun t ht => ?_, .alloc w _⟩
    · split
      · obtain rfl : t = n' := by omega
        rw [hg, lcsAt_end_right (by omega)]; rfl
      · rfl
    · simp [show ¬ n' ≤ t by omega]
  have h0' := Lib.hid h0
  have hPQ' := Lib.hid hPQ
  clear h0 hP hQ hg hPQ
  go_enter Tryz.func116, Tryz.ntmps116
  go_wp2
  go_loopw [10, 42, 58] (fun sj _ _ wr => ∃ J : Nat, J ≤ n' ∧ sj = .int .i64 ((J : Int) - 1) ∧ RowIn w wr P Q n' i J a b g) (fun sj _ _ _ => (intOf sj + 1).toNat)
  case atStart => exact ⟨n', Nat.le_refl _, rfl, h0'.out⟩
  case round =>
    obtain ⟨J, hJ, rfl, hR⟩ := hrel
    obtain ⟨wo, rfl⟩ : ∃ wo : World, wo = wr := ⟨_, rfl⟩
    clear h0' hmk
    rcases J with _ | q
    · go_wp2
      go_ret
      exact ⟨rfl, hR.row.congr fun t _ => by simp, hR.skips.congr fun t _ => by simp, hR.but⟩
    · have hq : q < n' := by omega
      have hiq : (((q + 1 : Nat) : Int) - 1) = (q : Int) := by omega
      rw [hiq]
      clear hiq
      have hBu := hR.but
      obtain ⟨bb, ob, y, rfl, hbb, hy, hyb⟩ := hA'.at_ (k := q) hq
      have cy0 : wo.cell? ⟨bb, ob + q, none⟩ = some (.int .i64 y) := (World.cell?_of_block (w := w) (hBu.block bb (by omega) (by omega))).trans hyb
      have c1 := hR.next.cell (i := q) (by omega)
      have c3 := hR.next.cell (i := q + 1) (by omega)
      have c2 := hR.row.cell (i := q + 1) (by omega)
      rw [if_pos (Nat.le_refl _)] at c2
      have f0 := hR.row.frozen q
      have f1 := hR.skips.frozen q
      obtain ⟨u0, cu0⟩ : ∃ u, wo.cell? ⟨P, q, none⟩ = some u := ⟨_, hR.row.cell (by omega)⟩
      obtain ⟨u1, cu1⟩ : ∃ u, wo.cell? ⟨w.heap.size, q, none⟩ = some u := ⟨_, hR.skips.cell hq⟩
      have l1 := lcsAt_le_left a b (i + 1) q
      have l2 := lcsAt_le_left a b i (q + 1)
      have l3 := lcsAt_le_left a b (i + 1) (q + 1)
      have hst := fun s v hs hv => hR.step (s := s) (v := v) hPw hQw hPQ'.out hs hv
      have hsk : skipAt a b i q = decide (lcsAt a b i (q + 1) ≤ lcsAt a b (i + 1) q) := rfl
      have hsame := fun h : x = y => lcsAt_same hx (h ▸ hy)
      have hother := lcsAt_other hx hy
      obtain ⟨v1, hv1⟩ : ∃ v, v = lcsAt a b (i + 1) q := ⟨_, rfl⟩
      obtain ⟨v2, hv2⟩ : ∃ v, v = lcsAt a b i (q + 1) := ⟨_, rfl⟩
      obtain ⟨v3, hv3⟩ : ∃ v, v = lcsAt a b (i + 1) (q + 1) := ⟨_, rfl⟩
      rw [← hv1] at c1 l1 hother hsk
      rw [← hv2] at c2 l2 hother hsk
      rw [← hv3] at c3 l3 hsame
      have hbne : bb ≠ P ∧ bb ≠ w.heap.size ∧ Q ≠ w.heap.size ∧ P ≠ w.heap.size := ⟨by omega, by omega, by omega, by omega⟩
      obtain ⟨hne1, hne2, hne3, hne4⟩ := hbne
      have hne5 := hPQ'.out
      have hne5' := hne5.symm
      have hst' := Lib.hid hst
      have hsk' := Lib.hid hsk
      have hsame' := Lib.hid hsame
      have hother' := Lib.hid hother
      have hBu' := Lib.hid hBu
      clear hv1 hv2 hv3 hyb hR hst hsk hsame hother hBu
      have i1 : (0 : Int) ≤ (q : Int) := by omega
      have i2 : (q : Int) < (n' : Int) := by omega
      by_cases hxy : x = y
      · have hb : (x == y) = true := by simpa using hxy
        have hL := Lib.hid (hsame'.out hxy)
        clear hxy
        by_cases hv : v2 ≤ v1
        · have hvi : (v2 : Int) ≤ (v1 : Int) := by omega
          go_wp2
          go_region
          go_wp2
          go_roundw
          case rel => exact ⟨q, by omega, by go_num, (by have := (hst'.out true (v3 + 1) (by rw [hsk'.out]; simp [hv]) (by rw [hL.out])).drew; push_cast at this; exact this)⟩
          case measure => simp [intOf]
        · have hvi : ¬ (v2 : Int) ≤ (v1 : Int) := by omega
          go_wp2
          go_region
          go_wp2
          go_roundw
          case rel => exact ⟨q, by omega, by go_num, (by have := (hst'.out false (v3 + 1) (by rw [hsk'.out]; simp [hv]) (by rw [hL.out])).drew; push_cast at this; exact this)⟩
          case measure => simp [intOf]
      · have hb : (x == y) = false := by simpa using hxy
        have hL := Lib.hid (hother'.out hxy)
        clear hxy
        by_cases hv : v2 ≤ v1
        · have hvi : (v2 : Int) ≤ (v1 : Int) := by omega
          go_wp2
          go_region
          go_wp2
          go_roundw
          case rel => exact ⟨q, by omega, by go_num, (hst'.out true v1 (by rw [hsk'.out]; simp [hv]) (by rw [hL.out]; omega)).drew⟩
          case measure => simp [intOf]
        · have hvi : ¬ (v2 : Int) ≤ (v1 : Int) := by omega
          go_wp2
          go_region
          go_wp2
          go_roundw
          case rel => exact ⟨q, by omega, by go_num, (hst'.out false v2 (by rw [hsk'.out]; simp [hv]) (by rw [hL.out]; omega)).drew⟩
          case measure => simp [intOf]
end Go.Proofs.YtoephlkfejcadaaGreat
