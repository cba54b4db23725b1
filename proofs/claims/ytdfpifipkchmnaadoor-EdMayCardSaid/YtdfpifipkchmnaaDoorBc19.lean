/- Proved here: texts joined: EdLay. -/
import Derived.Test.YtdfpifipkchmnaaDoorBc18
/- Proved here, without conditions: plain facts on the editor (layer 17): commands with figures are read; a text laid stands there; lines deleted; points stripped. -/
namespace Go.Proofs.YtdfpifipkchmnaaDoor
set_option linter.unusedVariables false

section
variable {len at_ k m n e line c : Nat} {s t : Tx} {l rest file f a b more text script : Txs} {saved sv sv' : Bool} {pre tl : Tx}

theorem fig_step (n : Nat) (h : ¬ n < 10) : figD n = figD (n / 10) ++ [UInt8.ofNat (48 + n % 10)] := by
  conv => lhs; unfold figD
  rw [if_neg h]
theorem fig_less (n : Nat) (h : n < 10) : figD n = [UInt8.ofNat (48 + n)] := by
  unfold figD
  rw [if_pos h]
theorem fig_byte (k : Nat) (h : k < 10) : (UInt8.ofNat (48 + k)).toNat = 48 + k := by
  rw [UInt8.toNat_ofNat']
  omega
theorem fig_all : ∀ (n : Nat), ∀ c ∈ figD n, figB c = true := by
  intro n
  induction n using Nat.strongRecOn with
  | _ n ih =>
    have hb : ∀ k < 10, figB (UInt8.ofNat (48 + k)) = true := fun k hk => by
      unfold figB
      rw [fig_byte k hk]
      simp
      omega
    by_cases h : n < 10
    · rw [fig_less n h]
      intro c hc
      rw [List.mem_singleton.1 hc]
      exact hb n h
    · rw [fig_step n h]
      intro c hc
      rcases List.mem_append.1 hc with hc | hc
      · exact ih (n / 10) (by omega) c hc
      · rw [List.mem_singleton.1 hc]
        exact hb _ (by omega)
theorem numV_snoc (s : Tx) (c : UInt8) : numV (s ++ [c]) = 10 * numV s + (c.toNat - 48) := by
  unfold numV
  rw [List.foldl_append]
  rfl
theorem fig_val : ∀ (n : Nat), numV (figD n) = n := by
  intro n
  induction n using Nat.strongRecOn with
  | _ n ih =>
    by_cases h : n < 10
    · rw [fig_less n h]
      show 10 * 0 + ((UInt8.ofNat (48 + n)).toNat - 48) = n
      rw [fig_byte n h]
      omega
    · rw [fig_step n h, numV_snoc, ih (n / 10) (by omega), fig_byte _ (by omega)]
      omega
theorem fig_ne (n : Nat) : figD n ≠ [] := by
  unfold figD
  split <;> simp
theorem fig_head : ∀ (n : Nat), 0 < n → (figD n).head? ≠ some 48 := by
  intro n
  induction n using Nat.strongRecOn with
  | _ n ih =>
    intro h0
    by_cases h : n < 10
    · rw [fig_less n h]
      intro e
      have e2 : UInt8.ofNat (48 + n) = 48 := by injection e
      have := congrArg UInt8.toNat e2
      rw [fig_byte n h] at this
      have h48 : (48 : UInt8).toNat = 48 := rfl
      omega
    · rw [fig_step n h]
      have hne := fig_ne (n / 10)
      obtain ⟨c, r, he⟩ := List.exists_cons_of_ne_nil hne
      have := ih (n / 10) (by omega) (by omega)
      rw [he] at this ⊢
      simpa using this
theorem fig_lenk : ∀ (k n : Nat), n < 10 ^ (k + 1) → (figD n).length ≤ k + 1
  | 0, n, h => by rw [fig_less n (by simpa using h)]; simp
  | k + 1, n, h => by
    by_cases h2 : n < 10
    · rw [fig_less n h2]; simp
    · rw [fig_step n h2, List.length_append, List.length_singleton]
      have := fig_lenk k (n / 10) (by rw [Nat.pow_succ] at h; omega)
      omega
theorem num_fig (h : n < 1000000000) : numE (figD n) = (n : Int) := by
  have h1 := fig_lenk 8 n (by simpa using h)
  have h2 : ¬ ((figD n).length = 0 ∨ 9 < (figD n).length ∨ ((figD n).head? = some 48 ∧ 1 < (figD n).length) ∨ (figD n).all figB = false) := by
    rintro (h3 | h3 | h3 | h3)
    · exact fig_ne n (List.eq_nil_of_length_eq_zero h3)
    · omega
    · rcases Nat.eq_zero_or_pos n with h0 | h0
      · subst h0
        rw [fig_less 0 (by omega)] at h3
        simp at h3
      · exact fig_head n h0 h3.1
    · rw [List.all_eq_true.2 (fig_all n)] at h3
      cases h3
  unfold numE
  rw [if_neg h2, fig_val]
theorem fig_com {c : UInt8} (h : figB c = true) : c ≠ 44 ∧ comB c = true ∧ c ≠ 10 := by
  refine ⟨?_, by unfold comB; rw [h]; rfl, ?_⟩
  · rintro rfl; revert h; decide
  · rintro rfl; revert h; decide
theorem fig_no44 (n : Nat) : (figD n).contains 44 = false := by
  rw [Bool.eq_false_iff]
  intro h
  have := List.contains_iff_mem.1 h
  exact (fig_com (fig_all n 44 this)).1 rfl
theorem lines_one (h : n < 1000000000) : linesE (figD n) = ((n : Int), (n : Int)) := by
  unfold linesE
  rw [if_pos (fig_no44 n), num_fig h]
theorem lines_two (hm : m < 1000000000) (hn : n < 1000000000) : linesE (figD m ++ [44] ++ figD n) = ((m : Int), (n : Int)) := by
  have hp : ∀ c ∈ figD m, (c != 44) = true := fun c hc => by simpa using (fig_com (fig_all m c hc)).1
  unfold linesE
  rw [if_neg (by simp), List.append_assoc, List.takeWhile_append_of_pos hp, List.dropWhile_append_of_pos hp]
  have e1 : ([44] ++ figD n : Tx).takeWhile (fun c => c != 44) = [] := rfl
  have e2 : ([44] ++ figD n : Tx).dropWhile (fun c => c != 44) = 44 :: figD n := rfl
  rw [e1, e2, List.append_nil, num_fig hm]
  show ((m : Int), numE (figD n)) = _
  rw [num_fig hn]
/-- What stands behind the lines of a command. -/
def KnownT (tl : Tx) : Prop := tl = [97, 10] ∨ tl = [99, 10] ∨ tl = [100, 10] ∨ tl = subT
theorem known_tl (h : KnownT tl) : tl.takeWhile comB = [] ∧ tl.dropWhile comB = tl ∧ tl ≠ [119, 10] ∧ tl ≠ [113, 10] ∧ ∃ v, tl = v ++ [10] ∧ (10 : UInt8) ∉ v := by
  rcases h with rfl | rfl | rfl | rfl
  · exact ⟨rfl, rfl, by decide, by decide, [97], rfl, by decide⟩
  · exact ⟨rfl, rfl, by decide, by decide, [99], rfl, by decide⟩
  · exact ⟨rfl, rfl, by decide, by decide, [100], rfl, by decide⟩
  · exact ⟨rfl, rfl, by decide, by decide, [115, 47, 94, 92, 46, 47, 47], rfl, by decide⟩
theorem read_known (hp : ∀ c ∈ pre, comB c = true) (h : KnownT tl) : readE (pre ++ tl) = knownE pre tl := by
  obtain ⟨h1, h2, h3, h4, v, h5, h6⟩ := known_tl h
  have e1 : (pre ++ tl).takeWhile comB = pre := by rw [List.takeWhile_append_of_pos hp, h1, List.append_nil]
  have e2 : (pre ++ tl).dropWhile comB = tl := by rw [List.dropWhile_append_of_pos hp, h2]
  have n1 : pre ++ tl ≠ [119, 10] := fun e => h3 (by rw [← e2, e]; rfl)
  have n2 : pre ++ tl ≠ [113, 10] := fun e => h4 (by rw [← e2, e]; rfl)
  have hl : lnB (pre ++ tl) = true := by
    rw [h5]
    exact ln_cmd (fun hx => by have := hp 10 hx; revert this; decide) h6
  unfold readE
  rw [if_neg n1, if_neg n2, if_neg (by rw [hl]; decide), e1, e2]
theorem read_a (h : n < 1000000000) : readE (figD n ++ [97, 10]) = ((n : Int), (n : Int), 97) := by
  rw [read_known (fun c hc => (fig_com (fig_all n c hc)).2.1) (.inl rfl)]
  unfold knownE
  rw [lines_one h, if_pos ⟨.inl ⟨rfl, fig_no44 n⟩, by simp, by simp⟩]
  rfl
theorem read_two (hm : m < 1000000000) (hn : n < 1000000000) (h : tl = [99, 10] ∨ tl = [100, 10] ∨ tl = subT) : readE (figD m ++ [44] ++ figD n ++ tl) = ((m : Int), (n : Int), tl.headD 0) := by
  rw [read_known (fun c hc => by
    rcases List.mem_append.1 hc with hc | hc
    · rcases List.mem_append.1 hc with hc | hc
      · exact (fig_com (fig_all m c hc)).2.1
      · rw [List.mem_singleton.1 hc]; rfl
    · exact (fig_com (fig_all n c hc)).2.1) (.inr h)]
  unfold knownE
  rw [lines_two hm hn, if_pos ⟨.inr h, by simp, by simp⟩]

/-! ### STEPS -/
theorem step_w : stepE len at_ [119, 10] rest file saved = .inr (file, true, 0) := rfl
theorem step_ac {M N : Int} {what : UInt8} (h : readE s = (M, N, what)) (h1 : what ≠ 113) (h2 : what ≠ 0) (h3 : what ≠ 119) : stepE len at_ s rest file saved = doE len at_ rest file M N what := by
  unfold stepE
  rw [h, if_neg h1, if_neg h2, if_neg h3]
theorem ins_block (ht : ∀ t ∈ text, lnB t = true) : insE len at_ m n (blockD text ++ more) file = .inr (layE file m n (text.map dotT), false, text.length + 1) := by
  have hb := block_back (l := text) (more := more)
  have hl := (lines_iff (d := text.map dotT)).2 fun t hx => by
    obtain ⟨u, hu, rfl⟩ := List.mem_map.1 hx
    exact ln_dot (ht u hu)
  unfold insE
  rw [hb, if_neg (by simp), if_neg (by simp [hl.1, hl.2])]
/-- The command's line that lays a text behind m, or in place of the lines behind m, up to n. -/
def headL (m n : Nat) : Tx := if m < n then figD (m + 1) ++ [44] ++ figD n ++ [99, 10] else figD m ++ [97, 10]
theorem step_head (ht : ∀ t ∈ text, lnB t = true) (hmn : m ≤ n) (hn : n ≤ file.length) (hf : file.length ≤ 1000000) : stepE len at_ (headL m n) (blockD text ++ more) file saved = .inr (layE file m n (text.map dotT), false, text.length + 1) := by
  unfold headL
  split
  · rename_i h
    rw [step_ac (read_two (m := m + 1) (n := n) (by omega) (by omega) (.inl rfl)) (by decide) (by decide) (by decide)]
    unfold doE
    have hl : leastE (([99, 10] : Tx).headD 0) = 1 := rfl
    rw [hl, if_neg (by omega), if_neg (by decide), if_pos (by rfl)]
    have e1 : (((m + 1 : Nat) : Int) - 1).toNat = m := by omega
    have e2 : ((n : Nat) : Int).toNat = n := by omega
    rw [e1, e2]
    exact ins_block ht
  · rename_i h
    obtain rfl : m = n := by omega
    rw [step_ac (read_a (n := m) (by omega)) (by decide) (by decide) (by decide)]
    unfold doE
    have hl : leastE 97 = 0 := rfl
    rw [hl, if_neg (by omega), if_pos rfl]
    have e1 : ((m : Nat) : Int).toNat = m := by omega
    rw [e1]
    exact ins_block ht
theorem lay_part (hm : m ≤ file.length) : partE (layE file m n l) ((m + 1 : Nat) : Int) ((m + l.length : Nat) : Int) = l := by
  have e1 : (((m + 1 : Nat) : Int) - 1).toNat = m := by omega
  have e2 : ((m + l.length : Nat) : Int).toNat = m + l.length := by omega
  unfold partE layE
  rw [e1, e2]
  have ht : (file.take m ++ l).length = m + l.length := by rw [List.length_append, List.length_take]; omega
  rw [List.take_append_of_le_length (by omega), List.take_of_length_le (by omega), List.drop_append_of_le_length (by rw [List.length_take]; omega), List.drop_of_length_le (by rw [List.length_take]; omega), List.nil_append]
theorem lay_lay (hm : m ≤ file.length) : layE (layE file m n l) m (m + l.length) text = layE file m n text := by
  have ht : (file.take m ++ l).length = m + l.length := by rw [List.length_append, List.length_take]; omega
  unfold layE
  have e1 : (file.take m ++ l ++ file.drop n).take m = file.take m := by
    rw [List.append_assoc, List.take_append_of_le_length (by rw [List.length_take]; omega), List.take_of_length_le (by rw [List.length_take]; omega)]
  have e2 : (file.take m ++ l ++ file.drop n).drop (m + l.length) = file.drop n := by
    rw [← ht, List.drop_left]
  rw [e1, e2]
theorem lay_len (hmn : m ≤ n) (hn : n ≤ file.length) : (layE file m n l).length = file.length - (n - m) + l.length := by
  unfold layE
  simp only [List.length_append, List.length_take, List.length_drop]
  omega
/-- The commands that lay a text. -/
def layL (m n : Nat) (text : Txs) : Txs := headL m n :: (blockD text ++ ((if dottedB text = true then [figD (m + 1) ++ [44] ++ figD (m + text.length) ++ subT] else []) ++ [[119, 10]]))
theorem step_strip (hm : m ≤ file.length) (hne : l ≠ []) (hd : dottedB l = true) (hs : m + l.length ≤ 1000000) (hmn : m ≤ n) (hn : n ≤ file.length) : stepE len at_ (figD (m + 1) ++ [44] ++ figD (m + l.length) ++ subT) rest (layE file m n l) saved = .inr (layE file m n (stripD l), false, 0) := by
  rw [step_ac (read_two (by omega) (by omega) (.inr (.inr rfl))) (by decide) (by decide) (by decide)]
  unfold doE
  have hl : leastE (subT.headD 0) = 1 := rfl
  have hlen := lay_len (l := l) hmn hn
  have hpos : 0 < l.length := by cases l with
    | nil => exact absurd rfl hne
    | cons x y => simp
  rw [hl, if_neg (by omega), if_neg (by decide), if_neg (by decide), if_neg (by decide), lay_part hm, if_neg (by rw [hd]; decide)]
  have e1 : (((m + 1 : Nat) : Int) - 1).toNat = m := by omega
  have e2 : ((m + l.length : Nat) : Int).toNat = m + l.length := by omega
  rw [e1, e2, lay_lay hm]
/-- A TEXT LAID STANDS THERE. -/
theorem lays_run (hf : ∀ t ∈ file, lnB t = true) (ht : ∀ t ∈ text, lnB t = true) (hmn : m ≤ n) (hn : n ≤ file.length) (h1 : file.length ≤ 1000) (h2 : text.length ≤ 1000) : edR (layL m n text) file = (layE file m n text, true, 0, 0) := by
  have hc : ¬ (mayB file = false ∨ openB file = true) := by
    have := lines_iff.2 hf
    simp [this.1, this.2]
  unfold edR
  rw [if_neg hc]
  unfold layL
  have hd := List.drop_left (l₁ := blockD text) (l₂ := (if dottedB text = true then [figD (m + 1) ++ [44] ++ figD (m + text.length) ++ subT] else []) ++ [[119, 10]])
  rw [block_len] at hd
  rw [run_go1 (step_head ht hmn hn (by omega)), hd]
  cases hdt : dottedB text with
  | false =>
    rw [if_neg (by decide), List.nil_append, run_go1 step_w, (dots_none hdt).1]
    show (match runE _ _ (List.drop 0 []) (layE file m n text) true with | .inl (e, line) => ([], false, line, e) | .inr (f, sv) => (f, sv, 0, 0)) = _
    rw [List.drop_zero, run_nil]
  | true =>
    have hne : text.map dotT ≠ [] := by
      cases text with
      | nil => cases hdt
      | cons x y => simp
    have hst := fun len => step_strip (len := len) (at_ := 0 + 1 + (text.length + 1)) (rest := [[119, 10]]) (saved := false) (file := file) (m := m) (n := n) (l := text.map dotT) (by omega) hne (by rw [dots_some, hdt]) (by rw [List.length_map]; omega) hmn hn
    simp only [List.length_map, strip_dots] at hst
    rw [if_pos rfl, List.singleton_append, run_go1 (hst _), List.drop_zero, run_go1 step_w]
    show (match runE _ _ (List.drop 0 []) (layE file m n text) true with | .inl (e, line) => ([], false, line, e) | .inr (f, sv) => (f, sv, 0, 0)) = _
    rw [List.drop_zero, run_nil]

/-! ### DELETED, STRIPPED -/
def delL (m n : Nat) : Tx := figD m ++ [44] ++ figD n ++ [100, 10]
theorem step_del (h1 : 1 ≤ m) (hmn : m ≤ n) (hn : n ≤ 1000000) : stepE len at_ (delL m n) rest file saved = if n ≤ file.length then .inr (layE file (m - 1) n [], false, 0) else .inl (3, at_ + 1) := by
  unfold delL
  rw [step_ac (read_two (by omega) (by omega) (.inr (.inl rfl))) (by decide) (by decide) (by decide)]
  unfold doE
  have hl : leastE (([100, 10] : Tx).headD 0) = 1 := rfl
  rw [hl]
  by_cases h : n ≤ file.length
  · rw [if_neg (by omega), if_neg (by decide), if_neg (by decide), if_pos (by rfl), if_pos h]
    have e1 : ((m : Nat) : Int).toNat = m := by omega
    have e2 : ((n : Nat) : Int).toNat = n := by omega
    have e3 : ((m : Int) - 1).toNat = m - 1 := by omega
    rw [e3, e2]
  · rw [if_pos (by omega), if_neg h]
theorem del_len (h1 : 1 ≤ m) (hmn : m ≤ n) (hn : n ≤ file.length) : (layE file (m - 1) n []).length < file.length := by
  rw [lay_len (by omega) hn]
  simp
  omega
theorem dels_run (h1 : 1 ≤ m) (hmn : m ≤ n) (hn : n ≤ 1000000) : ∀ (k : Nat) {file : Txs} {at_ : Nat} {saved : Bool}, file.length < k → ∃ line, runE len at_ (List.replicate k (delL m n)) file saved = .inl (3, line) ∧ at_ < line
  | 0, file, at_, saved, h => absurd h (Nat.not_lt_zero _)
  | k + 1, file, at_, saved, h => by
    have hs := step_del (len := len) (at_ := at_) (rest := List.replicate k (delL m n)) (file := file) (saved := saved) h1 hmn hn
    rw [List.replicate_succ]
    by_cases hl : n ≤ file.length
    · rw [if_pos hl] at hs
      rw [run_go1 hs, List.drop_zero]
      have := del_len h1 hmn hl
      obtain ⟨line, h2, h3⟩ := dels_run h1 hmn hn k (file := layE file (m - 1) n []) (at_ := at_ + 1 + 0) (saved := false) (by omega)
      exact ⟨line, h2, by omega⟩
    · rw [if_neg hl] at hs
      exact ⟨_, run_bad1 hs, Nat.lt_succ_self _⟩
theorem edR_go (hf : ∀ t ∈ file, lnB t = true) : edR script file = match runE script.length 0 script file false with
    | .inl (e, line) => ([], false, line, e)
    | .inr (f, sv) => (f, sv, 0, 0) := by
  have := lines_iff.2 hf
  unfold edR
  rw [if_neg (by simp [this.1, this.2])]
  cases runE script.length 0 script file false <;> rfl
theorem edR_inl (hf : ∀ t ∈ file, lnB t = true) (h : runE script.length 0 script file false = .inl (e, line)) : edR script file = ([], false, line, e) := by rw [edR_go hf, h]
theorem edR_inr (hf : ∀ t ∈ file, lnB t = true) (h : runE script.length 0 script file false = .inr (f, sv)) : edR script file = (f, sv, 0, 0) := by rw [edR_go hf, h]
theorem dels_w (hf : ∀ t ∈ file, lnB t = true) (h1 : 1 ≤ m) (hmn : m ≤ n) (hn : n ≤ file.length) (hx : file.length ≤ 1000) : edR [[119, 10], delL m n] file = (layE file (m - 1) n [], false, 0, 0) := by
  rw [edR_go hf, run_go1 step_w, List.drop_zero, run_go1 (by rw [step_del h1 hmn (by omega), if_pos hn]), List.drop_zero, run_nil]
theorem dels_q (hf : ∀ t ∈ file, lnB t = true) (h1 : 1 ≤ m) (hmn : m ≤ n) (hn : n ≤ file.length) (hx : file.length ≤ 1000) : edR [delL m n, [119, 10], [113, 10], delL m n] file = (layE file (m - 1) n [], true, 0, 0) := by
  rw [edR_go hf, run_go1 (by rw [step_del h1 hmn (by omega), if_pos hn]), List.drop_zero, run_go1 step_w, List.drop_zero, run_q]
theorem dels_all (hf : ∀ t ∈ file, lnB t = true) (h1 : 1 ≤ m) (hmn : m ≤ n) (hn : n ≤ file.length) (hk : file.length ≤ k) (hx : file.length ≤ 1000) : ∃ line, edR (List.replicate (k + 1) (delL m n)) file = ([], false, line, 3) ∧ 1 < line := by
  have hs := step_del (len := (List.replicate (k + 1) (delL m n)).length) (at_ := 0) (rest := List.replicate k (delL m n)) (file := file) (saved := false) h1 hmn (by omega)
  rw [if_pos hn] at hs
  have := del_len h1 hmn hn
  obtain ⟨line, h2, h3⟩ := dels_run (len := (List.replicate (k + 1) (delL m n)).length) h1 hmn (by omega) k (file := layE file (m - 1) n []) (at_ := 0 + 1 + 0) (saved := false) (by omega)
  refine ⟨line, ?_, by omega⟩
  have h4 : runE (List.replicate (k + 1) (delL m n)).length 0 (delL m n :: List.replicate k (delL m n)) file false = .inl (3, line) := by rw [run_go1 hs, List.drop_zero, h2]
  exact edR_inl hf h4
theorem strips_run (hf : ∀ t ∈ file, lnB t = true) (h1 : 1 ≤ file.length) (hx : file.length ≤ 1000) : edR [[49] ++ [44] ++ figD file.length ++ subT] file = if dottedB file = false then ([], false, 1, 7) else (stripD file, false, 0, 0) := by
  have e0 : ([49] : Tx) = figD 1 := by rw [fig_less 1 (by omega)]; rfl
  have hp : partE file ((1 : Nat) : Int) ((file.length : Nat) : Int) = file := by
    unfold partE
    have e1 : (((1 : Nat) : Int) - 1).toNat = 0 := rfl
    have e2 : ((file.length : Nat) : Int).toNat = file.length := by omega
    rw [e1, e2, List.take_length, List.drop_zero]
  have hs : stepE 1 0 (figD 1 ++ [44] ++ figD file.length ++ subT) [] file false = if dottedB file = false then .inl (7, 1) else .inr (layE file 0 file.length (stripD file), false, 0) := by
    rw [step_ac (read_two (by omega) (by omega) (.inr (.inr rfl))) (by decide) (by decide) (by decide)]
    unfold doE
    have hl : leastE (subT.headD 0) = 1 := rfl
    have e1 : (((1 : Nat) : Int) - 1).toNat = 0 := rfl
    have e2 : ((file.length : Nat) : Int).toNat = file.length := by omega
    rw [hl, if_neg (by omega), if_neg (by decide), if_neg (by decide), if_neg (by decide), hp, e1, e2]
  have hlay : layE file 0 file.length (stripD file) = stripD file := by
    unfold layE
    simp
  rw [edR_go hf, e0]
  by_cases h : dottedB file = false
  · rw [if_pos h] at hs
    rw [if_pos h, List.length_singleton, run_bad1 hs]
  · rw [if_neg h, hlay] at hs
    rw [if_neg h, List.length_singleton, run_go1 hs, List.drop_zero, run_nil]
end
end Go.Proofs.YtdfpifipkchmnaaDoor
