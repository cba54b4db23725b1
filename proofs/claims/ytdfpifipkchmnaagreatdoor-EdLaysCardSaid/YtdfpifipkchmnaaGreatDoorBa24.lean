/- Proved here: texts joined: EdStep, EdAt. -/
import Derived.Test.YtdfpifipkchmnaaGreatDoorBa14
import Derived.Test.YtdfpifipkchmnaaGreatDoorBa15
import Derived.Test.YtdfpifipkchmnaaGreatDoorBa21
import Derived.Test.YtdfpifipkchmnaaGreatDoorBa23
/- Proved here, without conditions: plain facts on a command of the editor (layer 17): its numbers; how much a file grows. -/
namespace Go.Proofs.YtdfpifipkchmnaaGreatDoor
set_option linter.unusedVariables false

section
variable {len at_ k m n e line : Nat} {s t pre rest : Tx} {l more file f script : Txs} {saved sv : Bool} {M N : Int} {what : UInt8} {X : Nat}

theorem numV_le : ∀ {k : Nat} {s : Tx}, s.length ≤ k → s.all figB = true → numV s < 10 ^ k
  | k, [], _, _ => by show 0 < 10 ^ k; exact Nat.pow_pos (by decide)
  | 0, c :: s, h, _ => by simp at h
  | k + 1, c :: s, h, ha => by
    obtain ⟨t, d, hd⟩ : ∃ t d, c :: s = t ++ [d] := ⟨(c :: s).dropLast, (c :: s).getLast (by simp), (List.dropLast_concat_getLast (by simp)).symm⟩
    rw [hd] at h ha ⊢
    rw [List.length_append, List.length_singleton] at h
    rw [List.all_append, Bool.and_eq_true] at ha
    have ih := numV_le (k := k) (s := t) (by omega) ha.1
    have hd9 : d.toNat - 48 ≤ 9 := by
      have := ha.2
      simp [figB] at this
      omega
    rw [numV_snoc, Nat.pow_succ]
    omega
  termination_by k s => k
theorem numE_le (s : Tx) : numE s = -1 ∨ ∃ m : Nat, numE s = (m : Int) ∧ m < 1000000000 := by
  unfold numE
  split
  · exact .inl rfl
  · rename_i h
    refine .inr ⟨_, rfl, ?_⟩
    simp only [not_or, Bool.not_eq_false] at h
    have := numV_le (k := 9) (s := s) (by omega) h.2.2.2
    simpa using this
theorem numE_nat (s : Tx) (h : 0 ≤ numE s) : ∃ m : Nat, numE s = (m : Int) ∧ m < 1000000000 := by
  rcases numE_le s with h1 | h1
  · omega
  · exact h1
theorem read_nums (h : readE s = (M, N, what)) (h0 : what ≠ 0) (h1 : what ≠ 113) (h2 : what ≠ 119) : ∃ m n : Nat, M = (m : Int) ∧ N = (n : Int) ∧ m ≤ 1000000000 ∧ n ≤ 1000000000 ∧ (what = 97 ∨ what = 99 ∨ what = 100 ∨ what = 115) ∧ (what = 97 → n = m) := by
  unfold readE at h
  split at h
  · simp only [Prod.mk.injEq] at h; exact absurd h.2.2.symm h2
  · split at h
    · simp only [Prod.mk.injEq] at h; exact absurd h.2.2.symm h1
    · split at h
      · simp only [Prod.mk.injEq] at h; exact absurd h.2.2.symm h0
      · generalize s.takeWhile comB = pre at h
        generalize s.dropWhile comB = rest at h
        unfold knownE at h
        split at h
        · rename_i hk
          obtain ⟨hr, hp1, hp2⟩ := hk
          simp only [Prod.mk.injEq] at h
          obtain ⟨e1, e2, e3⟩ := h
          have hl : ∃ m n : Nat, (linesE pre).1 = (m : Int) ∧ (linesE pre).2 = (n : Int) ∧ m < 1000000000 ∧ n < 1000000000 ∧ (pre.contains 44 = false → n = m) := by
            unfold linesE at hp1 hp2 ⊢
            split
            · rename_i hc
              rw [if_pos hc] at hp1
              obtain ⟨m, h1, h2⟩ := numE_nat _ hp1
              exact ⟨m, m, h1, h1, h2, h2, fun _ => rfl⟩
            · rename_i hc
              rw [if_neg hc] at hp1 hp2
              obtain ⟨m, h1, h2⟩ := numE_nat _ hp1
              obtain ⟨n, h3, h4⟩ := numE_nat _ hp2
              exact ⟨m, n, h1, h3, h2, h4, fun h => absurd h hc⟩
          obtain ⟨m, n, f1, f2, f3, f4, f5⟩ := hl
          refine ⟨m, n, by rw [← e1, f1], by rw [← e2, f2], by omega, by omega, ?_, ?_⟩
          · rcases hr with ⟨hr, _⟩ | hr | hr | hr
            · exact .inl (by rw [← e3, hr]; rfl)
            · exact .inr (.inl (by rw [← e3, hr]; rfl))
            · exact .inr (.inr (.inl (by rw [← e3, hr]; rfl)))
            · exact .inr (.inr (.inr (by rw [← e3, hr]; rfl)))
          · intro h97
            rcases hr with ⟨hr, hc⟩ | hr | hr | hr
            · exact f5 hc
            · rw [hr] at e3; rw [h97] at e3; cases e3
            · rw [hr] at e3; rw [h97] at e3; cases e3
            · rw [hr] at e3; rw [h97] at e3; cases e3
        · simp only [Prod.mk.injEq] at h
          exact absurd h.2.2.symm h0

/-- Not so many, not so long. -/
def upE (file f : Txs) (k X : Nat) : Prop := f.length ≤ file.length + k ∧ ∀ t ∈ f, t.length ≤ X
theorem lay_up (hf : ∀ t ∈ file, t.length ≤ X) (hl : ∀ t ∈ l, t.length ≤ X) (hmn : m ≤ n) : (layE file m n l).length ≤ file.length + l.length ∧ ∀ t ∈ layE file m n l, t.length ≤ X := by
  constructor
  · unfold layE
    simp only [List.length_append, List.length_take, List.length_drop]
    omega
  · intro t ht
    unfold layE at ht
    rcases List.mem_append.1 ht with ht | ht
    · rcases List.mem_append.1 ht with ht | ht
      · exact hf t (List.mem_of_mem_take ht)
      · exact hl t ht
    · exact hf t (List.mem_of_mem_drop ht)
theorem unblock_cnt : ∀ {l acc : Txs} {i : Nat}, (unblockD acc i l).2 ≠ 0 → (unblockD acc i l).1.length + i + 1 ≤ (unblockD acc i l).2 + acc.length
  | [], acc, i, h => absurd rfl h
  | t :: l, acc, i, h => by
    unfold unblockD at h ⊢
    split
    · simp; omega
    · rename_i hne
      rw [if_neg hne] at h
      have := unblock_cnt h
      rw [List.length_append, List.length_singleton] at this
      omega
theorem ins_up (hf : ∀ t ∈ file, t.length ≤ X) (hr : ∀ t ∈ more, t.length ≤ X) (hmn : m ≤ n) (h : insE len at_ m n more file = .inr (f, sv, k)) : upE file f k X := by
  unfold insE at h
  split at h
  · cases h
  · rename_i h0
    split at h
    · cases h
    · simp only [Sum.inr.injEq, Prod.mk.injEq] at h
      obtain ⟨rfl, rfl, rfl⟩ := h
      have h2 := unblock_cnt h0
      simp only [List.length_nil] at h2
      have h3 := lay_up (m := m) (n := n) hf (l := (unblockD [] 0 more).1) (fun t ht => by
        rcases (unblock_le (l := more) (acc := []) (i := 0)).2 t ht with h | h
        · cases h
        · exact hr t h) hmn
      exact ⟨by have := h3.1; omega, h3.2⟩
theorem do_up (hf : ∀ t ∈ file, t.length ≤ X) (hr : ∀ t ∈ more, t.length ≤ X) (h : doE len at_ more file M N what = .inr (f, sv, k)) : upE file f k X := by
  unfold doE at h
  split at h
  · cases h
  · rename_i hc
    have hmn : M ≤ N := by omega
    split at h
    · exact ins_up hf hr (Nat.le_refl _) h
    · split at h
      · exact ins_up hf hr (by omega) h
      · split at h
        · simp only [Sum.inr.injEq, Prod.mk.injEq] at h
          obtain ⟨rfl, rfl, rfl⟩ := h
          have := lay_up (m := (M - 1).toNat) (n := N.toNat) hf (l := []) (by simp) (by omega)
          exact ⟨by simpa using this.1, this.2⟩
        · split at h
          · cases h
          · simp only [Sum.inr.injEq, Prod.mk.injEq] at h
            obtain ⟨rfl, rfl, rfl⟩ := h
            have h2 := lay_up (m := (M - 1).toNat) (n := N.toNat) hf (l := stripD (partE file M N)) (fun t ht => by
              obtain ⟨u, hu, rfl⟩ := List.mem_map.1 ht
              have h3 := hf u (part_mem hu)
              have : (bareT u).length ≤ u.length := by unfold bareT; split <;> simp
              omega) (by omega)
            refine ⟨?_, h2.2⟩
            unfold layE stripD partE
            simp only [List.length_append, List.length_take, List.length_drop, List.length_map]
            omega
theorem step_up (hf : ∀ t ∈ file, t.length ≤ X) (hr : ∀ t ∈ more, t.length ≤ X) (h : stepE len at_ s more file saved = .inr (f, sv, k)) : upE file f k X := by
  unfold stepE at h
  split at h
  · simp only [Sum.inr.injEq, Prod.mk.injEq] at h
    obtain ⟨rfl, rfl, rfl⟩ := h
    exact ⟨by omega, hf⟩
  · split at h
    · cases h
    · split at h
      · simp only [Sum.inr.injEq, Prod.mk.injEq] at h
        obtain ⟨rfl, rfl, rfl⟩ := h
        exact ⟨by omega, hf⟩
      · exact do_up hf hr h
theorem ins_k (h : insE len at_ m n more file = .inr (f, sv, k)) : k ≤ more.length := by
  unfold insE at h
  split at h
  · cases h
  · split at h
    · cases h
    · simp only [Sum.inr.injEq, Prod.mk.injEq] at h
      obtain ⟨rfl, rfl, rfl⟩ := h
      have := (unblock_le (l := more) (acc := []) (i := 0)).1
      omega
theorem step_k (h : stepE len at_ s more file saved = .inr (f, sv, k)) : k ≤ more.length := by
  unfold stepE at h
  split at h
  · simp only [Sum.inr.injEq, Prod.mk.injEq] at h
    omega
  · split at h
    · cases h
    · split at h
      · simp only [Sum.inr.injEq, Prod.mk.injEq] at h
        omega
      · unfold doE at h
        split at h
        · cases h
        · split at h
          · exact ins_k h
          · split at h
            · exact ins_k h
            · split at h
              · simp only [Sum.inr.injEq, Prod.mk.injEq] at h
                omega
              · split at h
                · cases h
                · simp only [Sum.inr.injEq, Prod.mk.injEq] at h
                  omega
theorem run_up : ∀ (j : Nat) {l file : Txs} {at_ : Nat} {saved : Bool}, l.length ≤ j → (∀ t ∈ file, t.length ≤ X) → (∀ t ∈ l, t.length ≤ X) → runE len at_ l file saved = .inr (f, sv) → f.length ≤ file.length + l.length ∧ ∀ t ∈ f, t.length ≤ X
  | 0, l, file, at_, saved, hk, hf, hl, h => by
    obtain rfl : l = [] := List.eq_nil_of_length_eq_zero (by omega)
    rw [run_nil] at h
    simp only [Sum.inr.injEq, Prod.mk.injEq] at h
    obtain ⟨rfl, rfl⟩ := h
    exact ⟨Nat.le_refl _, hf⟩
  | j + 1, [], file, at_, saved, hk, hf, hl, h => by
    rw [run_nil] at h
    simp only [Sum.inr.injEq, Prod.mk.injEq] at h
    obtain ⟨rfl, rfl⟩ := h
    exact ⟨Nat.le_refl _, hf⟩
  | j + 1, s :: rest, file, at_, saved, hk, hf, hl, h => by
    cases hs : stepE len at_ s rest file saved with
    | inl x => rw [run_bad1 (e := x.1) (line := x.2) hs] at h; cases h
    | inr x =>
      obtain ⟨g, sv2, k⟩ := x
      rw [run_go1 hs] at h
      rw [List.length_cons] at hk ⊢
      have h1 := step_up hf (fun t ht => hl t (List.mem_cons_of_mem _ ht)) hs
      have h2 := step_k hs
      have h3 := run_up j (by rw [List.length_drop]; omega) h1.2 (fun t ht => hl t (List.mem_cons_of_mem _ (List.mem_of_mem_drop ht))) h
      rw [List.length_drop] at h3
      have := h1.1
      exact ⟨by omega, h3.2⟩
theorem edR_up (hf : ∀ t ∈ file, t.length ≤ X) (hl : ∀ t ∈ script, t.length ≤ X) (h : edR script file = (f, sv, line, e)) : f.length ≤ file.length + script.length ∧ ∀ t ∈ f, t.length ≤ X := by
  unfold edR at h
  split at h
  · simp only [Prod.mk.injEq] at h
    rw [← h.1]
    exact ⟨Nat.zero_le _, by simp⟩
  · split at h
    · simp only [Prod.mk.injEq] at h
      rw [← h.1]
      exact ⟨Nat.zero_le _, by simp⟩
    · rename_i f' sv' h'
      simp only [Prod.mk.injEq] at h
      obtain ⟨rfl, rfl, -, -⟩ := h
      exact run_up _ (Nat.le_refl _) hf hl h'
end
end Go.Proofs.YtdfpifipkchmnaaGreatDoor
/- Proved here: how far the document's own Run has come: its state's block, its commands. -/
namespace Go.Proofs.YtdfpifipkchmnaaGreatDoor
open Go.RowKit
set_option linter.unusedVariables false
set_option maxRecDepth 100000

/-- The state's block. -/
def EdC (w wr : World) (f : Txs) (sv : Bool) (at_ bad line : Nat) : Prop := ∃ A n c, wr.heap[w.heap.size]? = some (.cells #[.slice A n c, .bool sv, .int .i64 (at_ : Int), .int .i64 (bad : Int), .int .i64 (line : Int)] 45 (0, 0)) ∧ TxR wr wr.heap.size (A, n, c) f ∧ Below w.heap.size w wr
section
variable {w wr w1 : World} {f f' : Txs} {sv sv' : Bool} {at_ at' bad bad' line line' : Nat}
theorem EdC.up (h : EdC w wr f sv at_ bad line) (hb : Below wr.heap.size wr w1) : EdC w w1 f sv at_ bad line := by
  obtain ⟨A, n, c, h1, h2, h3⟩ := h
  exact ⟨A, n, c, (hb.block _ (Array.getElem?_eq_some_iff.1 h1).1).trans h1, h2.up hb, h3.trans (hb.mono h3.size)⟩
theorem EdC.put {A5 : Option Addr} {n5 c5 : Nat} (h : EdC w w1 f sv at_ bad line) (hT : TxR w1 w1.heap.size (A5, n5, c5) f') : EdC w (setS w1 w.heap.size (.slice A5 n5 c5) (.bool sv') (.int .i64 (at' : Int)) (.int .i64 (bad' : Int)) (.int .i64 (line' : Int))) f' sv' at' bad' line' := by
  obtain ⟨A, n, c, h1, h2, h3⟩ := h
  exact ⟨A5, n5, c5, setS_at _ _ _ _ _ h1, TxR.but hT (setS_but w1 w.heap.size _ _ _ _ _) (fun hn q o hA => not_state hT h1 hn hA), setS_below _ _ _ _ _ h3 (Nat.le_refl _)⟩
theorem EdC.setAt (h : EdC w wr f sv at_ bad line) (at' : Nat) : EdC w (wr.setCell ⟨w.heap.size, 2, none⟩ (.int .i64 (at' : Int))) f sv at' bad line := by
  obtain ⟨A, n, c, h1, h2, h3⟩ := h
  exact ⟨A, n, c, set_one 2 _ h1, TxR.but h2 (set_but wr w.heap.size 2 _) (fun hn q o hA => not_state h2 h1 hn hA), h3.setCell (p := ⟨w.heap.size, 2, none⟩) (Nat.le_refl _) _⟩
theorem EdC.setSv (h : EdC w wr f sv at_ bad line) : EdC w (wr.setCell ⟨w.heap.size, 1, none⟩ (.bool true)) f true at_ bad line := by
  obtain ⟨A, n, c, h1, h2, h3⟩ := h
  exact ⟨A, n, c, set_one 1 _ h1, TxR.but h2 (set_but wr w.heap.size 1 _) (fun hn q o hA => not_state h2 h1 hn hA), h3.setCell (p := ⟨w.heap.size, 1, none⟩) (Nat.le_refl _) _⟩
end
/-- How far the document's Run has come. -/
def EdAt (script file f : Txs) (sv : Bool) (at_ bad line : Nat) : Prop :=
  (bad = 0 → line = 0 ∧ at_ ≤ script.length ∧ runE script.length 0 script file false = runE script.length at_ (script.drop at_) f sv ∧ f.length + (script.length - at_) ≤ file.length + script.length ∧ ∀ t ∈ f, t.length ≤ 10000) ∧ (bad ≠ 0 → runE script.length 0 script file false = .inl (bad, line))
section
variable {script file f : Txs} {sv : Bool} {at_ : Nat} {s : Tx}
theorem EdAt.next (h : EdAt script file f sv at_ 0 0) (hs : script[at_]? = some s) (hss : ∀ t ∈ script, t.length ≤ 10000) (x : StE) (hx : stepE script.length at_ s (script.drop (at_ + 1)) f sv = x) :
    EdAt script file (resE f sv at_ x).1 (resE f sv at_ x).2.1 ((resE f sv at_ x).2.2.1 + 1) (resE f sv at_ x).2.2.2.1 (resE f sv at_ x).2.2.2.2 := by
  obtain ⟨h0, h1, h2, h3, h4⟩ := h.1 rfl
  have hlt := (List.getElem?_eq_some_iff.1 hs).1
  have hd : script.drop at_ = s :: script.drop (at_ + 1) := drop_at hs
  rw [hd] at h2
  cases x with
  | inl y =>
    obtain ⟨b, ln⟩ := y
    have hb := step_bad hx (by omega)
    refine ⟨fun h => ?_, fun _ => ?_⟩
    · simp only [resE] at h
      omega
    · rw [h2, run_bad1 hx]
      rfl
  | inr y =>
    obtain ⟨g, sv', k⟩ := y
    refine ⟨fun _ => ⟨rfl, ?_, ?_, ?_, ?_⟩, fun h => absurd rfl h⟩
    all_goals simp only [resE]
    · by_cases hq : (readE s).2.2 = 113
      · unfold stepE at hx
        rw [if_pos hq] at hx
        simp only [Sum.inr.injEq, Prod.mk.injEq, List.length_drop] at hx
        omega
      · have hk : k ≤ (script.drop (at_ + 1)).length := step_k hx
        rw [List.length_drop] at hk
        omega
    · rw [h2, run_go1 hx, List.drop_drop]
      congr 1
      · omega
      · congr 1
        omega
    · have hu := step_up h4 (fun t ht => hss t (List.mem_of_mem_drop ht)) hx
      have hk : k ≤ (script.drop (at_ + 1)).length := step_k hx
      rw [List.length_drop] at hk
      have := hu.1
      omega
    · exact (step_up h4 (fun t ht => hss t (List.mem_of_mem_drop ht)) hx).2
theorem res_bounds {len : Nat} {rest : Txs} (x : StE) (hx : stepE len at_ s rest f sv = x) (hl : at_ + 1 + rest.length = len) : at_ ≤ (resE f sv at_ x).2.2.1 ∧ (resE f sv at_ x).2.2.1 + 1 ≤ len ∧ (resE f sv at_ x).2.2.2.1 ≤ 7 ∧ (resE f sv at_ x).2.2.2.2 ≤ len + 1 := by
  cases x with
  | inl y =>
    have hb := step_bad (e := y.1) (line := y.2) hx (by omega)
    simp only [resE]
    omega
  | inr y =>
    obtain ⟨g, sv', k⟩ := y
    have := step_k hx
    simp only [resE]
    omega
theorem step_none {M N : Int} {len : Nat} {rest : Txs} (hr : readE s = (M, N, 0)) : stepE len at_ s rest f sv = .inl (2, at_ + 1) := by
  unfold stepE
  rw [hr]
  rw [if_neg (show ¬ (0 : UInt8) = 113 by decide), if_pos rfl]
theorem step_saved1 {M N : Int} {len : Nat} {rest : Txs} (hr : readE s = (M, N, 119)) : stepE len at_ s rest f sv = .inr (f, true, 0) := by
  unfold stepE
  rw [hr]
  rw [if_neg (show ¬ (119 : UInt8) = 113 by decide), if_neg (show ¬ (119 : UInt8) = 0 by decide), if_pos rfl]
end
end Go.Proofs.YtdfpifipkchmnaaGreatDoor
