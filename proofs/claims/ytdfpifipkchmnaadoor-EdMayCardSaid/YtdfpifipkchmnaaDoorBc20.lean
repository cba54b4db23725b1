/- Proved here: texts joined: EdAw, EdAwk, EdFewE, EdStep. -/
import Derived.Test.YtdfpifipkchmnaaDoorBc09
import Derived.Test.YtdfpifipkchmnaaDoorBc17
import Derived.Test.YtdfpifipkchmnaaDoorBc18
import Derived.Test.YtdfpifipkchmnaaDoorBc19
import Derived.Deep.DeepCutAuto
import Derived.RangeFuncBox
/- Proved here, without conditions: what Run comes to in the statements' own example of layer 17. -/
namespace Go.Proofs.YtdfpifipkchmnaaDoor
set_option linter.unusedVariables false

def eA : Tx := [97, 10]
def eB : Tx := [46, 98, 10]
def eS : Txs := [[49, 99, 10], [46, 46, 98, 10], [46, 10], [49, 115, 47, 94, 92, 46, 47, 47, 10], [119, 10], [113, 10], [63]]
theorem aw_lines : ∀ t ∈ [eA], lnB t = true := by decide
theorem aw_run : edR eS [eA] = ([eB], true, 0, 0) := by
  refine edR_inr aw_lines ?_
  have s1 : stepE 7 0 [49, 99, 10] [[46, 46, 98, 10], [46, 10], [49, 115, 47, 94, 92, 46, 47, 47, 10], [119, 10], [113, 10], [63]] [eA] false = .inr ([[46, 46, 98, 10]], false, 2) := by decide
  have s2 : stepE 7 3 [49, 115, 47, 94, 92, 46, 47, 47, 10] [[119, 10], [113, 10], [63]] [[46, 46, 98, 10]] false = .inr ([eB], false, 0) := by decide
  show runE 7 0 ([49, 99, 10] :: [[46, 46, 98, 10], [46, 10], [49, 115, 47, 94, 92, 46, 47, 47, 10], [119, 10], [113, 10], [63]]) [eA] false = _
  rw [run_go1 s1]
  show runE 7 3 ([49, 115, 47, 94, 92, 46, 47, 47, 10] :: [[119, 10], [113, 10], [63]]) [[46, 46, 98, 10]] false = _
  rw [run_go1 s2]
  show runE 7 4 ([119, 10] :: [[113, 10], [63]]) [eB] false = _
  rw [run_go1 step_w]
  show runE 7 5 ([113, 10] :: [[63]]) [eB] true = _
  rw [run_q]
theorem aw_bad : edR [[50, 100, 10]] [eA] = ([], false, 1, 3) := by
  refine edR_inl aw_lines ?_
  have s1 : stepE 1 0 [50, 100, 10] [] [eA] false = .inl (3, 1) := by decide
  exact run_bad1 s1
end Go.Proofs.YtdfpifipkchmnaaDoor
/- Proved here: the statements' own example of layer 17 comes to true. -/
namespace Go.Proofs.YtdfpifipkchmnaaDoor
open Go.RowKit
set_option linter.unusedVariables false
set_option maxRecDepth 100000

section
variable (H : EdRunOk)
include H
set_option maxHeartbeats 4000000 in
theorem edAwake_any (w : World) : Calls Tryd.prog 5 #[] w fun e w' => e = .returned (.bool true) ∧ Below w.heap.size w w' := by
  obtain ⟨W0, hW0⟩ : ∃ W0, W0 = w.alloc (.cells #[.string ⟨#[49, 99, 10]⟩, .string ⟨#[46, 46, 98, 10]⟩, .string ⟨#[46, 10]⟩, .string ⟨#[49, 115, 47, 94, 92, 46, 47, 47, 10]⟩, .string ⟨#[119, 10]⟩, .string ⟨#[113, 10]⟩, .string ⟨#[63]⟩] 9) := ⟨_, rfl⟩
  have hTA : TxR W0 W0.heap.size (some ⟨w.heap.size, 0, none⟩, 7, 7) eS := by rw [hW0]; exact txr_of (one_a w _) rfl rfl (by decide)
  have hB0 : Below w.heap.size w W0 := by rw [hW0]; exact below_alloc (Below.refl _ _) _
  have eg : W0.heap.size = w.heap.size + 1 := by rw [hW0]; simp
  obtain ⟨W1, hW1⟩ : ∃ W1, W1 = W0.alloc (.cells #[.string ⟨#[97, 10]⟩] 9) := ⟨_, rfl⟩
  have hB1 : Below W0.heap.size W0 W1 := by rw [hW1]; exact below_alloc (Below.refl _ _) _
  have hTY : TxR W1 W1.heap.size (some ⟨w.heap.size + 1, 0, none⟩, 1, 1) [eA] := by rw [← eg, hW1]; exact txr_of (one_a W0 _) rfl rfl (by decide)
  have ya : smallE eS := ⟨by decide, by decide⟩
  have yb : smallE [eA] := ⟨by decide, by decide⟩
  have yc : smallE [[50, 100, 10]] := ⟨by decide, by decide⟩
  have hC1 : Hid (Calls Tryd.prog 7 #[.slice (some ⟨w.heap.size, 0, none⟩) 7 7, .slice (some ⟨w.heap.size + 1, 0, none⟩) 1 1] W1 fun e w' => EdOut W1 w' e ([eB], true, 0, 0)) := Lib.hid (by
    have h := H _ 7 7 eS _ 1 1 [eA] W1 ya yb (hTA.up hB1) hTY
    rw [aw_run] at h
    exact h)
  have hC2 : Hid (∀ W : World, Calls Tryd.prog 7 #[.slice (some ⟨W.heap.size, 0, none⟩) 1 1, .slice (some ⟨W.heap.size + 1, 0, none⟩) 1 1] ((W.alloc (.cells #[.string ⟨#[50, 100, 10]⟩] 9)).alloc (.cells #[.string ⟨#[97, 10]⟩] 9)) fun e w' => EdOut ((W.alloc (.cells #[.string ⟨#[50, 100, 10]⟩] 9)).alloc (.cells #[.string ⟨#[97, 10]⟩] 9)) w' e ([], false, 1, 3)) := Lib.hid (fun W => by
    obtain ⟨k1, k2⟩ := two_a W (.cells #[.string ⟨#[50, 100, 10]⟩] 9) (.cells #[.string ⟨#[97, 10]⟩] 9)
    have h := H (some ⟨W.heap.size, 0, none⟩) 1 1 [[50, 100, 10]] (some ⟨W.heap.size + 1, 0, none⟩) 1 1 [eA] ((W.alloc (.cells #[.string ⟨#[50, 100, 10]⟩] 9)).alloc (.cells #[.string ⟨#[97, 10]⟩] 9)) yc yb (txr_of k1 rfl rfl (by decide)) (txr_of k2 rfl rfl (by decide))
    rw [aw_bad] at h
    exact h)
  have hW0h := Lib.hid hW0
  have hW1h := Lib.hid hW1
  have hB0h := Lib.hid hB0
  have hB1h := Lib.hid hB1
  clear hTA hTY hB0 hB1 hW0 hW1 ya yb yc eg H
  go_enter Tryd.func5, Tryd.ntmps5
  go_upto_region 3 with (first
    | (go_at_call 7; rw [← hW0h.out, ← hW1h.out]; refine hC1.out.mono ?_; rintro e w1 ⟨A1, n1, c1, rfl, p1, p3⟩; have hP1 := Lib.hid p1; have hB2 := Lib.hid (hB1h.out.trans (p3.mono hB1h.out.size)); clear p1 p3 hC1)
    | (go_at_call 7; refine (hC2.out _).mono ?_; rintro e w2 ⟨A2, n2, c2, rfl, p1, p3⟩; have hba := below_alloc (below_alloc (Below.refl w1.heap.size w1) (.cells #[.string ⟨#[50, 100, 10]⟩] 9)) (.cells #[.string ⟨#[97, 10]⟩] 9); have hbb := hba.trans (p3.mono hba.size); have hP2 := Lib.hid (hP1.out.up hbb); have hB3 := Lib.hid (hB2.out.trans (hbb.mono hB2.out.size)); clear p1 p3 hba hbb hC2))
  have n1e : n1 = 1 := by have := hP2.out.2.2.len; simpa using this.symm
  subst n1e
  obtain ⟨b1, o1, rfl, hb1, hc1⟩ := hP2.out.2.2.2 (by show 0 < 1; omega)
  have y0 : w2.cell? ⟨b1, o1, none⟩ = some (.string ⟨#[46, 98, 10]⟩) := hc1 0 _ rfl
  clear hc1 hP1 hP2
  go_wp2
  go_ret
  exact ⟨rfl, hB0h.out.trans (hB3.out.mono hB0h.out.size)⟩
end
end Go.Proofs.YtdfpifipkchmnaaDoor
/- Proved here: texts that are few, as the statements on the editor ask it. -/
namespace Go.Proofs.YtdfpifipkchmnaaDoor
open Go.RowKit
set_option linter.unusedVariables false
set_option maxRecDepth 100000

theorem fewK {l : Txs} {k : Nat} (h : fewB l k = true) (hk : k ≤ 1000) : l.length ≤ k ∧ ∀ t ∈ l, t.length ≤ 100 := by
  unfold fewB at h
  rw [Bool.and_eq_true, decide_eq_true_eq] at h
  refine ⟨h.1, fun t ht => ?_⟩
  have h2 := h.2
  rw [List.take_of_length_le (by omega), List.all_eq_true] at h2
  simpa using h2 t ht
theorem few_E {l : Txs} {k : Nat} (h : fewB l k = true) (hk : k ≤ 1000) : smallE l := by
  obtain ⟨h1, h2⟩ := fewK h hk
  exact ⟨by omega, fun s hs => by have := h2 s hs; omega⟩
theorem few_call (A : Option Addr) (n c k : Nat) (l : Txs) (w : World) (hk : k ≤ 1000) (h0 : TxR w w.heap.size (A, n, c) l) (fm : Bool) (hfm : fewB l k = fm) (W : World) (hW : Below w.heap.size w W) : Calls Tryd.prog 6 #[.slice A n c, .int .i64 (k : Int)] W fun e w' => e = .returned (.bool fm) ∧ W = w' := by
  rw [← hfm]
  exact Few_any A n c k W.heap.size l W (Nat.le_trans h0.1 h0.2.1) (by omega) (h0.up hW).2.2

end Go.Proofs.YtdfpifipkchmnaaDoor
/- Proved here, without conditions: plain facts on a command of the editor (layer 17): its numbers; how much a file grows. -/
namespace Go.Proofs.YtdfpifipkchmnaaDoor
set_option linter.unusedVariables false

section
variable {len at_ k m n e line : Nat} {s t pre rest : Tx} {l more file f script : Txs} {saved sv : Bool} {M N : Int} {what : UInt8} {X : Nat}

theorem numV_le : ∀ {k : Nat} {s : Tx}, s.length ≤ k → s.all figB = true → numV s < 10 ^ k
  | k, [], _, _ => by show 0 < 10 ^ k; exact Nat.pow_pos (by decide)
  | 0, c :: s, h, _ => by simp at h
  | k + 1, c :: s, h, ha => by
    obtain ⟨t, d, hd⟩ : ∃ t d, c :: s = t ++ [d] := ⟨(c :: s).dropLast, (c :: s).getLast (by simp), (List.dropLast_concat_getLast (by simp)).symm⟩
    rw [hd] at h ha ⊢
    rw [List.length_append, List.length_singleton] at h
    rw [List.all_append, Bool.and_eq_true] at ha
    have ih := numV_le (k := k) (s := t) (by omega) ha.1
    have hd9 : d.toNat - 48 ≤ 9 := by
      have := ha.2
      simp [figB] at this
      omega
    rw [numV_snoc, Nat.pow_succ]
    omega
  termination_by k s => k
theorem numE_le (s : Tx) : numE s = -1 ∨ ∃ m : Nat, numE s = (m : Int) ∧ m < 1000000000 := by
  unfold numE
  split
  · exact .inl rfl
  · rename_i h
    refine .inr ⟨_, rfl, ?_⟩
    simp only [not_or, Bool.not_eq_false] at h
    have := numV_le (k := 9) (s := s) (by omega) h.2.2.2
    simpa using this
theorem numE_nat (s : Tx) (h : 0 ≤ numE s) : ∃ m : Nat, numE s = (m : Int) ∧ m < 1000000000 := by
  rcases numE_le s with h1 | h1
  · omega
  · exact h1
theorem read_nums (h : readE s = (M, N, what)) (h0 : what ≠ 0) (h1 : what ≠ 113) (h2 : what ≠ 119) : ∃ m n : Nat, M = (m : Int) ∧ N = (n : Int) ∧ m ≤ 1000000000 ∧ n ≤ 1000000000 ∧ (what = 97 ∨ what = 99 ∨ what = 100 ∨ what = 115) ∧ (what = 97 → n = m) := by
  unfold readE at h
  split at h
  · simp only [Prod.mk.injEq] at h; exact absurd h.2.2.symm h2
  · split at h
    · simp only [Prod.mk.injEq] at h; exact absurd h.2.2.symm h1
    · split at h
      · simp only [Prod.mk.injEq] at h; exact absurd h.2.2.symm h0
      · generalize s.takeWhile comB = pre at h
        generalize s.dropWhile comB = rest at h
        unfold knownE at h
        split at h
        · rename_i hk
          obtain ⟨hr, hp1, hp2⟩ := hk
          simp only [Prod.mk.injEq] at h
          obtain ⟨e1, e2, e3⟩ := h
          have hl : ∃ m n : Nat, (linesE pre).1 = (m : Int) ∧ (linesE pre).2 = (n : Int) ∧ m < 1000000000 ∧ n < 1000000000 ∧ (pre.contains 44 = false → n = m) := by
            unfold linesE at hp1 hp2 ⊢
            split
            · rename_i hc
              rw [if_pos hc] at hp1
              obtain ⟨m, h1, h2⟩ := numE_nat _ hp1
              exact ⟨m, m, h1, h1, h2, h2, fun _ => rfl⟩
            · rename_i hc
              rw [if_neg hc] at hp1 hp2
              obtain ⟨m, h1, h2⟩ := numE_nat _ hp1
              obtain ⟨n, h3, h4⟩ := numE_nat _ hp2
              exact ⟨m, n, h1, h3, h2, h4, fun h => absurd h hc⟩
          obtain ⟨m, n, f1, f2, f3, f4, f5⟩ := hl
          refine ⟨m, n, by rw [← e1, f1], by rw [← e2, f2], by omega, by omega, ?_, ?_⟩
          · rcases hr with ⟨hr, _⟩ | hr | hr | hr
            · exact .inl (by rw [← e3, hr]; rfl)
            · exact .inr (.inl (by rw [← e3, hr]; rfl))
            · exact .inr (.inr (.inl (by rw [← e3, hr]; rfl)))
            · exact .inr (.inr (.inr (by rw [← e3, hr]; rfl)))
          · intro h97
            rcases hr with ⟨hr, hc⟩ | hr | hr | hr
            · exact f5 hc
            · rw [hr] at e3; rw [h97] at e3; cases e3
            · rw [hr] at e3; rw [h97] at e3; cases e3
            · rw [hr] at e3; rw [h97] at e3; cases e3
        · simp only [Prod.mk.injEq] at h
          exact absurd h.2.2.symm h0

/-- Not so many, not so long. -/
def upE (file f : Txs) (k X : Nat) : Prop := f.length ≤ file.length + k ∧ ∀ t ∈ f, t.length ≤ X
theorem lay_up (hf : ∀ t ∈ file, t.length ≤ X) (hl : ∀ t ∈ l, t.length ≤ X) (hmn : m ≤ n) : (layE file m n l).length ≤ file.length + l.length ∧ ∀ t ∈ layE file m n l, t.length ≤ X := by
  constructor
  · unfold layE
    simp only [List.length_append, List.length_take, List.length_drop]
    omega
  · intro t ht
    unfold layE at ht
    rcases List.mem_append.1 ht with ht | ht
    · rcases List.mem_append.1 ht with ht | ht
      · exact hf t (List.mem_of_mem_take ht)
      · exact hl t ht
    · exact hf t (List.mem_of_mem_drop ht)
theorem unblock_cnt : ∀ {l acc : Txs} {i : Nat}, (unblockD acc i l).2 ≠ 0 → (unblockD acc i l).1.length + i + 1 ≤ (unblockD acc i l).2 + acc.length
  | [], acc, i, h => absurd rfl h
  | t :: l, acc, i, h => by
    unfold unblockD at h ⊢
    split
    · simp; omega
    · rename_i hne
      rw [if_neg hne] at h
      have := unblock_cnt h
      rw [List.length_append, List.length_singleton] at this
      omega
theorem ins_up (hf : ∀ t ∈ file, t.length ≤ X) (hr : ∀ t ∈ more, t.length ≤ X) (hmn : m ≤ n) (h : insE len at_ m n more file = .inr (f, sv, k)) : upE file f k X := by
  unfold insE at h
  split at h
  · cases h
  · rename_i h0
    split at h
    · cases h
    · simp only [Sum.inr.injEq, Prod.mk.injEq] at h
      obtain ⟨rfl, rfl, rfl⟩ := h
      have h2 := unblock_cnt h0
      simp only [List.length_nil] at h2
      have h3 := lay_up (m := m) (n := n) hf (l := (unblockD [] 0 more).1) (fun t ht => by
        rcases (unblock_le (l := more) (acc := []) (i := 0)).2 t ht with h | h
        · cases h
        · exact hr t h) hmn
      exact ⟨by have := h3.1; omega, h3.2⟩
theorem do_up (hf : ∀ t ∈ file, t.length ≤ X) (hr : ∀ t ∈ more, t.length ≤ X) (h : doE len at_ more file M N what = .inr (f, sv, k)) : upE file f k X := by
  unfold doE at h
  split at h
  · cases h
  · rename_i hc
    have hmn : M ≤ N := by omega
    split at h
    · exact ins_up hf hr (Nat.le_refl _) h
    · split at h
      · exact ins_up hf hr (by omega) h
      · split at h
        · simp only [Sum.inr.injEq, Prod.mk.injEq] at h
          obtain ⟨rfl, rfl, rfl⟩ := h
          have := lay_up (m := (M - 1).toNat) (n := N.toNat) hf (l := []) (by simp) (by omega)
          exact ⟨by simpa using this.1, this.2⟩
        · split at h
          · cases h
          · simp only [Sum.inr.injEq, Prod.mk.injEq] at h
            obtain ⟨rfl, rfl, rfl⟩ := h
            have h2 := lay_up (m := (M - 1).toNat) (n := N.toNat) hf (l := stripD (partE file M N)) (fun t ht => by
              obtain ⟨u, hu, rfl⟩ := List.mem_map.1 ht
              have h3 := hf u (part_mem hu)
              have : (bareT u).length ≤ u.length := by unfold bareT; split <;> simp
              omega) (by omega)
            refine ⟨?_, h2.2⟩
            unfold layE stripD partE
            simp only [List.length_append, List.length_take, List.length_drop, List.length_map]
            omega
theorem step_up (hf : ∀ t ∈ file, t.length ≤ X) (hr : ∀ t ∈ more, t.length ≤ X) (h : stepE len at_ s more file saved = .inr (f, sv, k)) : upE file f k X := by
  unfold stepE at h
  split at h
  · simp only [Sum.inr.injEq, Prod.mk.injEq] at h
    obtain ⟨rfl, rfl, rfl⟩ := h
    exact ⟨by omega, hf⟩
  · split at h
    · cases h
    · split at h
      · simp only [Sum.inr.injEq, Prod.mk.injEq] at h
        obtain ⟨rfl, rfl, rfl⟩ := h
        exact ⟨by omega, hf⟩
      · exact do_up hf hr h
theorem ins_k (h : insE len at_ m n more file = .inr (f, sv, k)) : k ≤ more.length := by
  unfold insE at h
  split at h
  · cases h
  · split at h
    · cases h
    · simp only [Sum.inr.injEq, Prod.mk.injEq] at h
      obtain ⟨rfl, rfl, rfl⟩ := h
      have := (unblock_le (l := more) (acc := []) (i := 0)).1
      omega
theorem step_k (h : stepE len at_ s more file saved = .inr (f, sv, k)) : k ≤ more.length := by
  unfold stepE at h
  split at h
  · simp only [Sum.inr.injEq, Prod.mk.injEq] at h
    omega
  · split at h
    · cases h
    · split at h
      · simp only [Sum.inr.injEq, Prod.mk.injEq] at h
        omega
      · unfold doE at h
        split at h
        · cases h
        · split at h
          · exact ins_k h
          · split at h
            · exact ins_k h
            · split at h
              · simp only [Sum.inr.injEq, Prod.mk.injEq] at h
                omega
              · split at h
                · cases h
                · simp only [Sum.inr.injEq, Prod.mk.injEq] at h
                  omega
theorem run_up : ∀ (j : Nat) {l file : Txs} {at_ : Nat} {saved : Bool}, l.length ≤ j → (∀ t ∈ file, t.length ≤ X) → (∀ t ∈ l, t.length ≤ X) → runE len at_ l file saved = .inr (f, sv) → f.length ≤ file.length + l.length ∧ ∀ t ∈ f, t.length ≤ X
  | 0, l, file, at_, saved, hk, hf, hl, h => by
    obtain rfl : l = [] := List.eq_nil_of_length_eq_zero (by omega)
    rw [run_nil] at h
    simp only [Sum.inr.injEq, Prod.mk.injEq] at h
    obtain ⟨rfl, rfl⟩ := h
    exact ⟨Nat.le_refl _, hf⟩
  | j + 1, [], file, at_, saved, hk, hf, hl, h => by
    rw [run_nil] at h
    simp only [Sum.inr.injEq, Prod.mk.injEq] at h
    obtain ⟨rfl, rfl⟩ := h
    exact ⟨Nat.le_refl _, hf⟩
  | j + 1, s :: rest, file, at_, saved, hk, hf, hl, h => by
    cases hs : stepE len at_ s rest file saved with
    | inl x => rw [run_bad1 (e := x.1) (line := x.2) hs] at h; cases h
    | inr x =>
      obtain ⟨g, sv2, k⟩ := x
      rw [run_go1 hs] at h
      rw [List.length_cons] at hk ⊢
      have h1 := step_up hf (fun t ht => hl t (List.mem_cons_of_mem _ ht)) hs
      have h2 := step_k hs
      have h3 := run_up j (by rw [List.length_drop]; omega) h1.2 (fun t ht => hl t (List.mem_cons_of_mem _ (List.mem_of_mem_drop ht))) h
      rw [List.length_drop] at h3
      have := h1.1
      exact ⟨by omega, h3.2⟩
theorem edR_up (hf : ∀ t ∈ file, t.length ≤ X) (hl : ∀ t ∈ script, t.length ≤ X) (h : edR script file = (f, sv, line, e)) : f.length ≤ file.length + script.length ∧ ∀ t ∈ f, t.length ≤ X := by
  unfold edR at h
  split at h
  · simp only [Prod.mk.injEq] at h
    rw [← h.1]
    exact ⟨Nat.zero_le _, by simp⟩
  · split at h
    · simp only [Prod.mk.injEq] at h
      rw [← h.1]
      exact ⟨Nat.zero_le _, by simp⟩
    · rename_i f' sv' h'
      simp only [Prod.mk.injEq] at h
      obtain ⟨rfl, rfl, -, -⟩ := h
      exact run_up _ (Nat.le_refl _) hf hl h'
end
end Go.Proofs.YtdfpifipkchmnaaDoor
