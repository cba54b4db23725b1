/- Proved here: texts joined: EdPl2. -/
import Derived.Test.YtdfpifipkchmnaaDoorBc22
/- Proved here, without a word of the program: a command as the landed editor reads it does what the document's does. -/
namespace Go.Proofs.YtdfpifipkchmnaaDoor
set_option linter.unusedVariables false

section
variable {s t pre name : Tx} {what : UInt8} {l : List Nat} {m n k len at_ : Nat} {rest file : Txs} {saved : Bool}
/-- The numbers ahead of a name, by both. -/
theorem cut_lines (hp : ∀ c ∈ pre, comB c = true) : match cutN pre with
    | none => (linesE pre).1 < 0 ∨ (linesE pre).2 < 0
    | some l => (l = [] ∧ pre = [] ∧ linesE pre = (-1, -1)) ∨ (∃ m : Nat, l = [m] ∧ m < 1000000000 ∧ linesE pre = ((m : Int), (m : Int)) ∧ pre.contains 44 = false ∧ pre ≠ []) ∨
      (∃ m n : Nat, l = [m, n] ∧ m < 1000000000 ∧ n < 1000000000 ∧ linesE pre = ((m : Int), (n : Int)) ∧ pre.contains 44 = true ∧ pre ≠ []) ∨ (3 ≤ l.length ∧ (linesE pre).2 < 0 ∧ pre.contains 44 = true ∧ pre ≠ []) := by
  by_cases h0 : pre = []
  · subst h0
    exact .inl ⟨rfl, rfl, by decide⟩
  · by_cases hc : (44 : UInt8) ∈ pre
    · have hcc : pre.contains 44 = true := by simpa using hc
      obtain ⟨a, b, e, ha⟩ := comma_cut hc
      have hl : linesE pre = (numE a, numE b) := by
        unfold linesE
        rw [if_neg (by rw [hcc]; decide), e]
        have h1 : ∀ (a : Tx), (44 : UInt8) ∉ a → (a ++ 44 :: b).takeWhile (fun c => c != 44) = a ∧ (a ++ 44 :: b).dropWhile (fun c => c != 44) = 44 :: b := by
          intro a
          induction a with
          | nil => intro _; simp
          | cons c r ih =>
            intro h
            have hcn : (c != 44) = true := by simpa using fun e => h (by rw [e]; exact List.mem_cons_self ..)
            have := ih fun hr => h (List.mem_cons_of_mem _ hr)
            rw [List.cons_append, List.takeWhile_cons, List.dropWhile_cons, hcn]
            exact ⟨by rw [if_pos rfl, this.1], by rw [if_pos rfl, this.2]⟩
        rw [(h1 a ha).1, (h1 a ha).2]
        rfl
      have hs : splitC pre = a :: splitC b := by rw [e, splitC_at b ha]
      have hfa : a.all figB = true := part_figs hp (by rw [hs]; exact List.mem_cons_self ..)
      by_cases hb : (44 : UInt8) ∈ b
      · have hnb : numE b = -1 := by
          unfold numE
          rw [if_pos]
          refine .inr (.inr (.inr ?_))
          rw [Bool.eq_false_iff]
          intro hall
          have := List.all_eq_true.1 hall 44 hb
          revert this
          decide
        have h3 : 3 ≤ (splitC pre).length := by
          obtain ⟨a2, b2, e2, ha2⟩ := comma_cut hb
          rw [hs, e2, splitC_at b2 ha2]
          have := List.length_pos_iff.2 (splitC_ne b2)
          simp only [List.length_cons]
          omega
        unfold cutN
        rw [if_neg h0]
        by_cases hall : (splitC pre).all mayN = true
        · rw [if_pos hall]
          exact .inr (.inr (.inr ⟨by rw [List.length_map]; exact h3, by rw [hl, hnb]; exact (by decide : (-1 : Int) < 0), hcc, h0⟩))
        · rw [if_neg hall]
          exact .inr (by rw [hl, hnb]; exact (by decide : (-1 : Int) < 0))
      · have hs2 : splitC pre = [a, b] := by rw [hs, splitC_none hb]
        have hfb : b.all figB = true := part_figs hp (by rw [hs2]; simp)
        unfold cutN
        rw [if_neg h0, hs2]
        simp only [List.all_cons, List.all_nil, Bool.and_true, Bool.and_eq_true]
        by_cases hall : mayN a = true ∧ mayN b = true
        · rw [if_pos hall]
          refine .inr (.inr (.inl ⟨numV a, numV b, rfl, (mayN_small hfa hall.1).1, (mayN_small hfb hall.2).1, ?_, hcc, h0⟩))
          rw [hl, (mayN_num hfa).1 hall.1, (mayN_num hfb).1 hall.2]
        · rw [if_neg hall, hl]
          by_cases h1 : mayN a = true
          · have h2 : mayN b = false := by
              rw [Bool.eq_false_iff]; exact fun h => hall ⟨h1, h⟩
            exact .inr (by rw [(mayN_num hfb).2 h2]; exact (by decide : (-1 : Int) < 0))
          · exact .inl (by rw [(mayN_num hfa).2 (by simpa using h1)]; exact (by decide : (-1 : Int) < 0))
    · have hcc : pre.contains 44 = false := by
        rw [Bool.eq_false_iff]; intro h; exact hc (by simpa using h)
      have hl : linesE pre = (numE pre, numE pre) := by
        unfold linesE
        rw [if_pos hcc]
      have hs : splitC pre = [pre] := splitC_none hc
      have hf : pre.all figB = true := part_figs hp (by rw [hs]; simp)
      unfold cutN
      rw [if_neg h0, hs]
      simp only [List.all_cons, List.all_nil, Bool.and_true]
      by_cases hm : mayN pre = true
      · rw [if_pos hm]
        exact .inr (.inl ⟨numV pre, rfl, (mayN_small hf hm).1, by rw [hl, (mayN_num hf).1 hm], hcc, h0⟩)
      · rw [if_neg hm]
        exact .inl (by rw [hl, (mayN_num hf).2 (by simpa using hm)]; decide)

theorem name_rest (name : Tx) : ((name ++ [10] = [97, 10]) ↔ name = [97]) ∧ ((name ++ [10] = [99, 10]) ↔ name = [99]) ∧ ((name ++ [10] = [100, 10]) ↔ name = [100]) ∧ ((name ++ [10] = subT) ↔ name = subN) ∧ ((name ++ [10] = [119, 10]) ↔ name = [119]) ∧ ((name ++ [10] = [113, 10]) ↔ name = [113]) := by
  have h : ∀ t : Tx, (name ++ [10] = t ++ [10]) ↔ name = t := fun t => List.append_left_inj _
  exact ⟨h [97], h [99], h [100], h subN, h [119], h [113]⟩
/-- What a line without its line feed reads. -/
theorem readE_no (h : s.getLast? ≠ some 10) : readE s = (0, 0, 0) := by
  unfold readE
  rw [if_neg (by rintro rfl; exact h rfl), if_neg (by rintro rfl; exact h rfl), if_pos]
  rw [Bool.eq_false_iff]
  intro hl
  obtain ⟨w, rfl, _⟩ := line_of hl
  exact h (by simp)
theorem readE_cut (hp : ∀ c ∈ pre, comB c = true) (hn : ∀ c, name.head? = some c → comB c = false) :
    readE (pre ++ name ++ [10]) = if pre = [] ∧ name = [119] then (0, 0, 119) else if pre = [] ∧ name = [113] then (0, 0, 113) else if (10 : UInt8) ∈ name then (0, 0, 0) else knownE pre (name ++ [10]) := by
  have hn2 : ∀ c, (name ++ [10]).head? = some c → comB c = false := by
    intro c hc
    cases name with
    | nil => simp at hc; subst hc; decide
    | cons d r => exact hn c (by simpa using hc)
  have ht := take_com hp hn2
  rw [← List.append_assoc] at ht
  have h10 : (10 : UInt8) ∉ pre := fun h => by have := hp 10 h; revert this; decide
  have hw : ∀ (x : UInt8), comB x = false → ((pre ++ name ++ [10] = [x, 10]) ↔ (pre = [] ∧ name = [x])) := by
    intro x hx
    constructor
    · intro e
      have e2 : pre ++ name = [x] := by
        have : pre ++ name ++ [10] = [x] ++ [10] := e
        exact List.append_left_inj _ |>.1 this
      cases pre with
      | nil => exact ⟨rfl, by simpa using e2⟩
      | cons c r =>
        simp only [List.cons_append, List.cons.injEq] at e2
        have := hp c (List.mem_cons_self ..)
        rw [e2.1, hx] at this
        cases this
    · rintro ⟨rfl, rfl⟩
      rfl
  unfold readE
  rw [ht.1, ht.2]
  by_cases h1 : pre = [] ∧ name = [119]
  · rw [if_pos ((hw 119 (by decide)).2 h1), if_pos h1]
  · rw [if_neg (fun e => h1 ((hw 119 (by decide)).1 e)), if_neg h1]
    by_cases h2 : pre = [] ∧ name = [113]
    · rw [if_pos ((hw 113 (by decide)).2 h2), if_pos h2]
    · rw [if_neg (fun e => h2 ((hw 113 (by decide)).1 e)), if_neg h2]
      by_cases h3 : (10 : UInt8) ∈ name
      · rw [if_pos h3, if_pos]
        rw [Bool.eq_false_iff]
        intro hl
        obtain ⟨w, e, hw2⟩ := line_of hl
        have : pre ++ name = w := List.append_left_inj _ |>.1 e
        exact hw2 (this ▸ List.mem_append_right _ h3)
      · rw [if_neg h3, if_neg]
        rw [ln_of (fun h => (List.mem_append.1 h).elim h10 h3)]
        decide
theorem nameW_cases (name : Tx) : (name = [97] ∧ nameW name = 97) ∨ (name = [99] ∧ nameW name = 99) ∨ (name = [100] ∧ nameW name = 100) ∨ (name = subN ∧ nameW name = 115) ∨ (name = [119] ∧ nameW name = 119) ∨ (name = [113] ∧ nameW name = 113) ∨
    (name ≠ [97] ∧ name ≠ [99] ∧ name ≠ [100] ∧ name ≠ subN ∧ name ≠ [119] ∧ name ≠ [113] ∧ nameW name = 0) := by
  unfold nameW
  by_cases h1 : name = [97]
  · exact .inl ⟨h1, if_pos h1⟩
  · rw [if_neg h1]
    by_cases h2 : name = [99]
    · exact .inr (.inl ⟨h2, if_pos h2⟩)
    · rw [if_neg h2]
      by_cases h3 : name = [100]
      · exact .inr (.inr (.inl ⟨h3, if_pos h3⟩))
      · rw [if_neg h3]
        by_cases h4 : name = subN
        · exact .inr (.inr (.inr (.inl ⟨h4, if_pos h4⟩)))
        · rw [if_neg h4]
          by_cases h5 : name = [119]
          · exact .inr (.inr (.inr (.inr (.inl ⟨h5, if_pos h5⟩))))
          · rw [if_neg h5]
            by_cases h6 : name = [113]
            · exact .inr (.inr (.inr (.inr (.inr (.inl ⟨h6, if_pos h6⟩)))))
            · exact .inr (.inr (.inr (.inr (.inr (.inr ⟨h1, h2, h3, h4, h5, h6, if_neg h6⟩)))))

/-- What the landed editor does with a command. -/
def stepL (len at_ : Nat) (pre name : Tx) (rest file : Txs) (saved : Bool) : StE :=
  match cutN pre with
  | none => .inl (2, at_ + 1)
  | some l => if nameW name = 0 ∨ numsB (nameW name) l.length = false then .inl (2, at_ + 1)
    else if nameW name = 113 then .inr (file, saved, rest.length)
    else if nameW name = 119 then .inr (file, true, 0)
    else doE len at_ rest file (l.headD 0 : Nat) (l.getLastD 0 : Nat) (nameW name)
theorem stepE_of {M N : Int} (h : readE s = (M, N, what)) : stepE len at_ s rest file saved = if what = 113 then .inr (file, saved, rest.length) else if what = 0 then .inl (2, at_ + 1) else if what = 119 then .inr (file, true, 0) else doE len at_ rest file M N what := by
  unfold stepE
  rw [h]
theorem stepE_no (h : s.getLast? ≠ some 10) : stepE len at_ s rest file saved = .inl (2, at_ + 1) := by
  rw [stepE_of (readE_no h), if_neg (by decide), if_pos rfl]
theorem known_bad {r : Tx} (h : (linesE pre).1 < 0 ∨ (linesE pre).2 < 0) : knownE pre r = (0, 0, 0) := by
  unfold knownE
  rw [if_neg]
  rintro ⟨_, h1, h2⟩
  omega
theorem known_no {r : Tx} (h1 : r ≠ [97, 10]) (h2 : r ≠ [99, 10]) (h3 : r ≠ [100, 10]) (h4 : r ≠ subT) : knownE pre r = (0, 0, 0) := by
  unfold knownE
  rw [if_neg]
  rintro ⟨⟨h, _⟩ | h | h | h, _⟩
  · exact h1 h
  · exact h2 h
  · exact h3 h
  · exact h4 h
theorem step_same (hp : ∀ c ∈ pre, comB c = true) (hn : ∀ c, name.head? = some c → comB c = false) :
    stepE len at_ (pre ++ name ++ [10]) rest file saved = stepL len at_ pre name rest file saved := by
  obtain ⟨n1, n2, n3, n4, n5, n6⟩ := name_rest name
  have hr := readE_cut hp hn
  have hc := cut_lines hp
  have bad : readE (pre ++ name ++ [10]) = (0, 0, 0) → stepE len at_ (pre ++ name ++ [10]) rest file saved = .inl (2, at_ + 1) := fun h => by
    rw [stepE_of h, if_neg (by decide), if_pos rfl]
  unfold stepL
  cases hcn : cutN pre with
  | none =>
    rw [hcn] at hc
    dsimp only at hc ⊢
    refine bad ?_
    have hpn : pre ≠ [] := by
      rintro rfl
      simp [cutN] at hcn
    rw [hr, if_neg (fun h => hpn h.1), if_neg (fun h => hpn h.1), known_bad hc]
    split <;> rfl
  | some l =>
    rw [hcn] at hc
    dsimp only at hc ⊢
    have no10 : ∀ t : Tx, name = t → (10 : UInt8) ∉ t → (10 : UInt8) ∉ name := fun t e h => e ▸ h
    rcases nameW_cases name with ⟨e, hw⟩ | ⟨e, hw⟩ | ⟨e, hw⟩ | ⟨e, hw⟩ | ⟨e, hw⟩ | ⟨e, hw⟩ | ⟨h1, h2, h3, h4, h5, h6, hw⟩
    -- a
    · rw [hw]
      have hr2 : readE (pre ++ name ++ [10]) = knownE pre [97, 10] := by
        rw [hr, if_neg (by rw [e]; rintro ⟨_, h⟩; simp at h), if_neg (by rw [e]; rintro ⟨_, h⟩; simp at h), if_neg (no10 _ e (by decide)), n1.2 e]
      rcases hc with ⟨rfl, h0, hl⟩ | ⟨m, rfl, hm, hl, hcc, h0⟩ | ⟨m, n, rfl, hm, hn', hl, hcc, h0⟩ | ⟨h3, hl, hcc, h0⟩
      · rw [if_pos (.inr (by decide))]
        exact bad (by rw [hr2, known_bad (.inl (by rw [hl]; decide))])
      · rw [if_neg (by rintro (h | h) <;> revert h <;> simp [numsB]), if_neg (by decide), if_neg (by decide)]
        have : readE (pre ++ name ++ [10]) = ((m : Int), (m : Int), 97) := by
          rw [hr2]
          unfold knownE
          rw [hl, if_pos ⟨.inl ⟨rfl, hcc⟩, by simp, by simp⟩]
          rfl
        rw [stepE_of this, if_neg (by decide), if_neg (by decide), if_neg (by decide)]
        rfl
      · rw [if_pos (.inr (by simp [numsB]))]
        refine bad ?_
        rw [hr2]
        unfold knownE
        rw [if_neg]
        rintro ⟨⟨_, h⟩ | h | h | h, _⟩
        · rw [hcc] at h; cases h
        · revert h; decide
        · revert h; decide
        · revert h; decide
      · rw [if_pos (.inr (by unfold numsB; rw [if_pos rfl]; exact decide_eq_false (by omega)))]
        exact bad (by rw [hr2, known_bad (.inr hl)])
    -- c
    · rw [hw]
      have hr2 : readE (pre ++ name ++ [10]) = knownE pre [99, 10] := by
        rw [hr, if_neg (by rw [e]; rintro ⟨_, h⟩; simp at h), if_neg (by rw [e]; rintro ⟨_, h⟩; simp at h), if_neg (no10 _ e (by decide)), n2.2 e]
      rcases hc with ⟨rfl, h0, hl⟩ | ⟨m, rfl, hm, hl, hcc, h0⟩ | ⟨m, n, rfl, hm, hn', hl, hcc, h0⟩ | ⟨h3, hl, hcc, h0⟩
      · rw [if_pos (.inr (by decide))]
        exact bad (by rw [hr2, known_bad (.inl (by rw [hl]; decide))])
      · rw [if_neg (by rintro (h | h) <;> revert h <;> simp [numsB]), if_neg (by decide), if_neg (by decide)]
        have : readE (pre ++ name ++ [10]) = ((m : Int), (m : Int), 99) := by
          rw [hr2]
          unfold knownE
          rw [hl, if_pos ⟨.inr (.inl rfl), by simp, by simp⟩]
          rfl
        rw [stepE_of this, if_neg (by decide), if_neg (by decide), if_neg (by decide)]
        rfl
      · rw [if_neg (by rintro (h | h) <;> revert h <;> simp [numsB]), if_neg (by decide), if_neg (by decide)]
        have : readE (pre ++ name ++ [10]) = ((m : Int), (n : Int), 99) := by
          rw [hr2]
          unfold knownE
          rw [hl, if_pos ⟨.inr (.inl rfl), by simp, by simp⟩]
          rfl
        rw [stepE_of this, if_neg (by decide), if_neg (by decide), if_neg (by decide)]
        rfl
      · rw [if_pos (.inr (by unfold numsB; rw [if_neg (by decide), if_neg (by decide)]; exact decide_eq_false (by omega)))]
        exact bad (by rw [hr2, known_bad (.inr hl)])
    -- d
    · rw [hw]
      have hr2 : readE (pre ++ name ++ [10]) = knownE pre [100, 10] := by
        rw [hr, if_neg (by rw [e]; rintro ⟨_, h⟩; simp at h), if_neg (by rw [e]; rintro ⟨_, h⟩; simp at h), if_neg (no10 _ e (by decide)), n3.2 e]
      rcases hc with ⟨rfl, h0, hl⟩ | ⟨m, rfl, hm, hl, hcc, h0⟩ | ⟨m, n, rfl, hm, hn', hl, hcc, h0⟩ | ⟨h3, hl, hcc, h0⟩
      · rw [if_pos (.inr (by decide))]
        exact bad (by rw [hr2, known_bad (.inl (by rw [hl]; decide))])
      · rw [if_neg (by rintro (h | h) <;> revert h <;> simp [numsB]), if_neg (by decide), if_neg (by decide)]
        have : readE (pre ++ name ++ [10]) = ((m : Int), (m : Int), 100) := by
          rw [hr2]
          unfold knownE
          rw [hl, if_pos ⟨.inr (.inr (.inl rfl)), by simp, by simp⟩]
          rfl
        rw [stepE_of this, if_neg (by decide), if_neg (by decide), if_neg (by decide)]
        rfl
      · rw [if_neg (by rintro (h | h) <;> revert h <;> simp [numsB]), if_neg (by decide), if_neg (by decide)]
        have : readE (pre ++ name ++ [10]) = ((m : Int), (n : Int), 100) := by
          rw [hr2]
          unfold knownE
          rw [hl, if_pos ⟨.inr (.inr (.inl rfl)), by simp, by simp⟩]
          rfl
        rw [stepE_of this, if_neg (by decide), if_neg (by decide), if_neg (by decide)]
        rfl
      · rw [if_pos (.inr (by unfold numsB; rw [if_neg (by decide), if_neg (by decide)]; exact decide_eq_false (by omega)))]
        exact bad (by rw [hr2, known_bad (.inr hl)])
    -- s
    · rw [hw]
      have hr2 : readE (pre ++ name ++ [10]) = knownE pre subT := by
        rw [hr, if_neg (by rw [e]; rintro ⟨_, h⟩; revert h; decide), if_neg (by rw [e]; rintro ⟨_, h⟩; revert h; decide), if_neg (no10 _ e (by decide)), n4.2 e]
      rcases hc with ⟨rfl, h0, hl⟩ | ⟨m, rfl, hm, hl, hcc, h0⟩ | ⟨m, n, rfl, hm, hn', hl, hcc, h0⟩ | ⟨h3, hl, hcc, h0⟩
      · rw [if_pos (.inr (by decide))]
        exact bad (by rw [hr2, known_bad (.inl (by rw [hl]; decide))])
      · rw [if_neg (by rintro (h | h) <;> revert h <;> simp [numsB]), if_neg (by decide), if_neg (by decide)]
        have : readE (pre ++ name ++ [10]) = ((m : Int), (m : Int), 115) := by
          rw [hr2]
          unfold knownE
          rw [hl, if_pos ⟨.inr (.inr (.inr rfl)), by simp, by simp⟩]
          rfl
        rw [stepE_of this, if_neg (by decide), if_neg (by decide), if_neg (by decide)]
        rfl
      · rw [if_neg (by rintro (h | h) <;> revert h <;> simp [numsB]), if_neg (by decide), if_neg (by decide)]
        have : readE (pre ++ name ++ [10]) = ((m : Int), (n : Int), 115) := by
          rw [hr2]
          unfold knownE
          rw [hl, if_pos ⟨.inr (.inr (.inr rfl)), by simp, by simp⟩]
          rfl
        rw [stepE_of this, if_neg (by decide), if_neg (by decide), if_neg (by decide)]
        rfl
      · rw [if_pos (.inr (by unfold numsB; rw [if_neg (by decide), if_neg (by decide)]; exact decide_eq_false (by omega)))]
        exact bad (by rw [hr2, known_bad (.inr hl)])
    -- w
    · rw [hw]
      by_cases h0 : pre = []
      · have hl0 : l = [] := by
          rcases hc with ⟨h, _, _⟩ | ⟨m, h, hm, hl, hcc, h0'⟩ | ⟨m, n, h, hm, hn', hl, hcc, h0'⟩ | ⟨h3, hl, hcc, h0'⟩
          · exact h
          · exact absurd h0 h0'
          · exact absurd h0 h0'
          · exact absurd h0 h0'
        subst hl0
        rw [if_neg (by decide), if_neg (by decide), if_pos rfl]
        rw [stepE_of (hr.trans (if_pos ⟨h0, e⟩)), if_neg (by decide), if_neg (by decide), if_pos rfl]
      · have hln : numsB 119 l.length = false := by
          rcases hc with ⟨_, h, _⟩ | ⟨m, rfl, hm, hl, hcc, h0'⟩ | ⟨m, n, rfl, hm, hn', hl, hcc, h0'⟩ | ⟨h3, hl, hcc, h0'⟩
          · exact absurd h h0
          · rfl
          · rfl
          · unfold numsB; rw [if_neg (by decide), if_pos (.inl rfl)]; exact decide_eq_false (by omega)
        rw [if_pos (.inr hln)]
        refine bad ?_
        rw [hr, if_neg (fun h => h0 h.1), if_neg (fun h => h0 h.1), if_neg (no10 _ e (by decide)), e]
        exact known_no (by decide) (by decide) (by decide) (by decide)
    -- q
    · rw [hw]
      by_cases h0 : pre = []
      · have hl0 : l = [] := by
          rcases hc with ⟨h, _, _⟩ | ⟨m, h, hm, hl, hcc, h0'⟩ | ⟨m, n, h, hm, hn', hl, hcc, h0'⟩ | ⟨h3, hl, hcc, h0'⟩
          · exact h
          · exact absurd h0 h0'
          · exact absurd h0 h0'
          · exact absurd h0 h0'
        subst hl0
        rw [if_neg (by decide), if_pos rfl]
        rw [stepE_of (hr.trans ((if_neg (by rw [e]; rintro ⟨_, h⟩; simp at h)).trans (if_pos ⟨h0, e⟩))), if_pos rfl]
      · have hln : numsB 113 l.length = false := by
          rcases hc with ⟨_, h, _⟩ | ⟨m, rfl, hm, hl, hcc, h0'⟩ | ⟨m, n, rfl, hm, hn', hl, hcc, h0'⟩ | ⟨h3, hl, hcc, h0'⟩
          · exact absurd h h0
          · rfl
          · rfl
          · unfold numsB; rw [if_neg (by decide), if_pos (.inr rfl)]; exact decide_eq_false (by omega)
        rw [if_pos (.inr hln)]
        refine bad ?_
        rw [hr, if_neg (fun h => h0 h.1), if_neg (fun h => h0 h.1), if_neg (no10 _ e (by decide)), e]
        exact known_no (by decide) (by decide) (by decide) (by decide)
    -- none of these
    · rw [hw, if_pos (.inl rfl)]
      refine bad ?_
      rw [hr, if_neg (fun h => h5 h.2), if_neg (fun h => h6 h.2), known_no (fun h => h1 (n1.1 h)) (fun h => h2 (n2.1 h)) (fun h => h3 (n3.1 h)) (fun h => h4 (n4.1 h))]
      split <;> rfl
end
end Go.Proofs.YtdfpifipkchmnaaDoor
