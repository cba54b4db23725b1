/- Proved here: texts joined: ConEd, EdJoin. -/
import Derived.Test.YtdfpifipkchmnaaDoorBc17
/- What the statements ask of package ed. -/
namespace Go.Proofs.YtdfpifipkchmnaaDoor
open Go.RowKit
set_option linter.unusedVariables false
set_option maxRecDepth 100000

def smallE (l : Txs) : Prop := l.length ≤ 1000 ∧ ∀ s ∈ l, s.length ≤ 10000
/-- What Run tells: the file, whether it was written, the line, the error. -/
def EdOut (w w' : World) (e : Ending) (x : Txs × Bool × Nat × Nat) : Prop := ∃ A n c, e = .returned (.tuple #[.slice A n c, .bool x.2.1, .int .i64 (x.2.2.1 : Int), .int .i64 (x.2.2.2 : Int)]) ∧ TxR w' w'.heap.size (A, n, c) x.1 ∧ Below w.heap.size w w'
/-- The contract of ed.Run. -/
def EdRunOk : Prop := ∀ (As : Option Addr) (ns cs : Nat) (script : Txs) (A : Option Addr) (n c : Nat) (file : Txs) (w : World), smallE script → smallE file → TxR w w.heap.size (As, ns, cs) script → TxR w w.heap.size (A, n, c) file →
    Calls Tryd.prog 7 #[.slice As ns cs, .slice A n c] w fun e w' => EdOut w w' e (edR script file)
end Go.Proofs.YtdfpifipkchmnaaDoor
/- Proved here, without conditions: plain facts on the editor (layer 17): commands that have no q, and then others, are run as all. -/
namespace Go.Proofs.YtdfpifipkchmnaaDoor
set_option linter.unusedVariables false

/-- As if so many lines were ahead. -/
def shiftE {α : Type} (c : Nat) (x : (Nat × Nat) ⊕ α) : (Nat × Nat) ⊕ α := match x with
  | .inl y => .inl (y.1, c + y.2)
  | .inr y => .inr y

section
variable {len len' at_ k m n e line c : Nat} {s t : Tx} {l rest file f a b more text script : Txs} {saved sv sv' : Bool} {x : Txs × Bool × Nat} {M N : Int} {what : UInt8}

theorem unblock_more : ∀ {l acc : Txs} {i : Nat}, (unblockD acc i l).2 ≠ 0 → unblockD acc i (l ++ b) = unblockD acc i l
  | [], acc, i, h => absurd rfl h
  | t :: l, acc, i, h => by
    rw [List.cons_append]
    unfold unblockD at h ⊢
    split
    · rfl
    · rename_i hne
      rw [if_neg hne] at h
      exact unblock_more h
theorem read_quit (h : (readE s).2.2 = 113) : s = [113, 10] := by
  unfold readE at h
  split at h
  · simp at h
  · split at h
    · rename_i hq; exact hq
    · split at h
      · simp at h
      · unfold knownE at h
        split at h
        · rename_i hk
          obtain ⟨hr, -⟩ := hk
          dsimp only at h
          rcases hr with ⟨hr, -⟩ | hr | hr | hr
          all_goals
            rw [hr] at h
            simp [subT] at h
        · simp at h
theorem ins_more (h : insE len at_ m n rest file = .inr x) : insE len' at_ m n (rest ++ b) file = .inr x := by
  unfold insE at h
  split at h
  · cases h
  · rename_i h0
    unfold insE
    rw [unblock_more h0, if_neg h0]
    exact h
theorem do_more (h : doE len at_ rest file M N what = .inr x) : doE len' at_ (rest ++ b) file M N what = .inr x := by
  unfold doE at h ⊢
  split
  · rename_i hc; rw [if_pos hc] at h; cases h
  · rename_i hc
    rw [if_neg hc] at h
    split
    · rename_i ha; rw [if_pos ha] at h; exact ins_more h
    · rename_i ha
      rw [if_neg ha] at h
      split
      · rename_i hb; rw [if_pos hb] at h; exact ins_more h
      · rename_i hb; rw [if_neg hb] at h; exact h
theorem step_more (h : stepE len at_ s rest file saved = .inr x) (hq : s ≠ [113, 10]) : stepE len' at_ s (rest ++ b) file saved = .inr x := by
  unfold stepE at h ⊢
  have h113 : ¬ (readE s).2.2 = 113 := fun h => hq (read_quit h)
  rw [if_neg h113] at h ⊢
  split
  · rename_i h0; rw [if_pos h0] at h; cases h
  · rename_i h0
    rw [if_neg h0] at h
    split
    · rename_i hw; rw [if_pos hw] at h; exact h
    · rename_i hw; rw [if_neg hw] at h; exact do_more h

/-! Errors of a place: as many lines ahead. -/
theorem ins_shift : insE (c + len) (c + at_) m n rest file = shiftE c (insE len at_ m n rest file) := by
  unfold insE
  split
  · rfl
  · split
    · rfl
    · rfl
theorem do_shift : doE (c + len) (c + at_) rest file M N what = shiftE c (doE len at_ rest file M N what) := by
  unfold doE
  split
  · rfl
  · split
    · exact ins_shift
    · split
      · exact ins_shift
      · split
        · rfl
        · split <;> rfl
theorem step_shift : stepE (c + len) (c + at_) s rest file saved = shiftE c (stepE len at_ s rest file saved) := by
  unfold stepE
  split
  · rfl
  · split
    · rfl
    · split
      · rfl
      · exact do_shift
theorem run_shift : ∀ (k : Nat) {l file : Txs} {at_ : Nat} {saved : Bool}, l.length ≤ k → runE (c + len) (c + at_) l file saved = shiftE c (runE len at_ l file saved)
  | 0, l, file, at_, saved, hk => by
    obtain rfl : l = [] := List.eq_nil_of_length_eq_zero (by omega)
    rw [run_nil, run_nil]
    rfl
  | k + 1, [], file, at_, saved, hk => by
    rw [run_nil, run_nil]
    rfl
  | k + 1, s :: rest, file, at_, saved, hk => by
    have hs := step_shift (c := c) (len := len) (at_ := at_) (s := s) (rest := rest) (file := file) (saved := saved)
    cases h : stepE len at_ s rest file saved with
    | inl x =>
      rw [h] at hs
      rw [run_bad1 (e := x.1) (line := x.2) h, run_bad1 (e := x.1) (line := c + x.2) hs]
      rfl
    | inr x =>
      obtain ⟨g, sv2, j⟩ := x
      rw [h] at hs
      rw [run_go1 h, run_go1 (f := g) (sv := sv2) (k := j) hs]
      rw [List.length_cons] at hk
      have := run_shift k (l := rest.drop j) (file := g) (at_ := at_ + 1 + j) (saved := sv2) (by rw [List.length_drop]; omega)
      rw [show c + at_ + 1 + j = c + (at_ + 1 + j) by omega]
      exact this

/-- Whether it was written ahead tells nothing, where a command stands that isn't q. -/
theorem step_saved (hq : s ≠ [113, 10]) : stepE len at_ s rest file saved = stepE len at_ s rest file sv := by
  unfold stepE
  have h113 : ¬ (readE s).2.2 = 113 := fun h => hq (read_quit h)
  rw [if_neg h113, if_neg h113]
theorem run_saved (hq : s ≠ [113, 10]) : runE len at_ (s :: rest) file saved = runE len at_ (s :: rest) file sv := by
  have h := step_saved (len := len) (at_ := at_) (rest := rest) (file := file) (saved := saved) (sv := sv) hq
  rw [runE, runE, h]
theorem step_q : stepE len at_ [113, 10] rest file saved = .inr (file, saved, rest.length) := by
  unfold stepE
  rw [if_pos (by rfl)]
theorem run_q : runE len at_ ([113, 10] :: rest) file saved = .inr (file, saved) := by
  rw [run_go1 step_q, List.drop_length, run_nil]

/-- COMMANDS BEHIND OTHERS. -/
theorem run_more : ∀ (k : Nat) {l file : Txs} {at_ : Nat} {saved : Bool}, l.length ≤ k → (∀ t ∈ file, lnB t = true) → (∀ t ∈ l, t ≠ [113, 10]) → runE len at_ l file saved = .inr (f, sv) → runE len' at_ (l ++ b) file saved = runE len' (at_ + l.length) b f sv
  | 0, l, file, at_, saved, hk, hf, hq, h => by
    obtain rfl : l = [] := List.eq_nil_of_length_eq_zero (by omega)
    rw [run_nil] at h
    simp only [Sum.inr.injEq, Prod.mk.injEq] at h
    rw [h.1, h.2]
    rfl
  | k + 1, [], file, at_, saved, hk, hf, hq, h => by
    rw [run_nil] at h
    simp only [Sum.inr.injEq, Prod.mk.injEq] at h
    rw [h.1, h.2]
    rfl
  | k + 1, s :: rest, file, at_, saved, hk, hf, hq, h => by
    cases hs : stepE len at_ s rest file saved with
    | inl x => rw [run_bad1 (e := x.1) (line := x.2) hs] at h; cases h
    | inr x =>
      obtain ⟨g, sv2, j⟩ := x
      rw [run_go1 hs] at h
      obtain ⟨hg, hj⟩ := step_lines hf hs
      have hs2 := step_more (len' := len') (b := b) hs (hq s (List.mem_cons_self ..))
      rw [List.length_cons] at hk
      have := run_more k (by rw [List.length_drop]; omega) hg (fun t ht => hq t (List.mem_cons_of_mem _ (List.mem_of_mem_drop ht))) h
      rw [List.cons_append, run_go1 hs2, List.drop_append, Nat.sub_eq_zero_of_le hj, List.drop_zero, this, List.length_drop, List.length_cons]
      congr 1
      omega
theorem edR_join (h : edR a file = (f, sv, line, 0)) (hq : ∀ t ∈ a, t ≠ [113, 10]) :
    (∀ g s n e, edR b f = (g, s, n, e) → (e ≠ 0 → ∃ y t, edR (a ++ b) file = (y, t, n + a.length, e)) ∧ (e = 0 → edR (a ++ b) file = (g, if b = [] ∨ b.head? = some [113, 10] then sv else s, 0, 0))) := by
  intro g s n e hb
  unfold edR at h
  split at h
  · simp at h
  · rename_i hc
    split at h
    · rename_i e' line' h'
      simp only [Prod.mk.injEq] at h
      have hc2 := hc
      simp only [not_or, Bool.not_eq_false, Bool.not_eq_true] at hc2
      have := run_bad _ (Nat.le_refl _) (lines_iff.1 hc2) (Nat.zero_add _) h'
      omega
    · rename_i f' sv' h'
      simp only [Prod.mk.injEq] at h
      obtain ⟨rfl, rfl, -, -⟩ := h
      have hc2 := hc
      simp only [not_or, Bool.not_eq_false, Bool.not_eq_true] at hc2
      have hf := run_lines _ (Nat.le_refl _) (lines_iff.1 hc2) h'
      have hm := run_more (b := b) (len' := (a ++ b).length) _ (Nat.le_refl _) (lines_iff.1 hc2) hq h'
      rw [Nat.zero_add] at hm
      have hsh := run_shift (c := a.length) (len := b.length) _ (l := b) (file := f') (at_ := 0) (saved := sv') (Nat.le_refl _)
      rw [← List.length_append, Nat.add_zero] at hsh
      rw [hsh] at hm
      have hcf : ¬ (mayB f' = false ∨ openB f' = true) := by
        have := lines_iff.2 hf
        simp [this.1, this.2]
      unfold edR at hb ⊢
      rw [if_neg hcf] at hb
      rw [if_neg hc, hm]
      cases b with
      | nil =>
        rw [run_nil] at hb ⊢
        simp only [Prod.mk.injEq] at hb
        obtain ⟨rfl, rfl, rfl, rfl⟩ := hb
        exact ⟨fun h0 => absurd rfl h0, fun _ => by simp [shiftE]⟩
      | cons t r =>
        by_cases ht : t = [113, 10]
        · subst ht
          rw [run_q] at hb ⊢
          simp only [Prod.mk.injEq] at hb
          obtain ⟨rfl, rfl, rfl, rfl⟩ := hb
          exact ⟨fun h0 => absurd rfl h0, fun _ => by simp [shiftE]⟩
        · rw [run_saved (sv := false) ht]
          split at hb
          · rename_i e' line' h2
            simp only [Prod.mk.injEq] at hb
            obtain ⟨rfl, rfl, rfl, rfl⟩ := hb
            rw [h2]
            refine ⟨fun _ => ⟨[], false, ?_⟩, fun h0 => ?_⟩
            · simp [shiftE]; omega
            · have := run_bad _ (Nat.le_refl _) hf (Nat.zero_add _) h2
              omega
          · rename_i f2 s2 h2
            simp only [Prod.mk.injEq] at hb
            obtain ⟨rfl, rfl, rfl, rfl⟩ := hb
            rw [h2]
            refine ⟨fun h0 => absurd rfl h0, fun _ => ?_⟩
            rw [if_neg (by simp [ht])]
            rfl
end
end Go.Proofs.YtdfpifipkchmnaaDoor
