/- Proved here: texts joined: ZlSmall, ConMark, MkSty, MkLn, UnBk, MkMay. -/
import Derived.Test.YtcpopnhnihbofaaGreatDoorBe13
import Derived.Test.YtcpopnhnihbofaaGreatDoorBe16
import Derived.Test.YtcpopnhnihbofaaGreatDoorBe20
import Derived.Deep.DeepCutAuto
import Derived.Outline
/- Proved here, without conditions: of few pieces what Zeal tells is neither many nor long. -/
namespace Go.Proofs.YtcpopnhnihbofaaGreatDoor
open Go.RowKit
set_option linter.unusedVariables false

theorem text_joinT (t : Txs) : ∀ {r : List Pc} {q : Pc}, (∀ p ∈ r, p.1 = false → p = tPc p.2.1) → q ∈ joinT t r → q.1 = false → q = tPc q.2.1
  | [], q, _, h, _ => by
    have h : q ∈ (if t = [] then [] else [tPc t] : List Pc) := h
    by_cases e : t = []
    · rw [if_pos e] at h; cases h
    · rw [if_neg e, List.mem_singleton] at h
      subst h
      rfl
  | (false, x, b, s) :: r, q, hr, h, hc => by
    rcases List.mem_cons.1 h with rfl | h
    · have := hr (false, x, b, s) (List.mem_cons_self ..) rfl
      simp [tPc] at this
      obtain ⟨rfl, rfl⟩ := this
      rfl
    · exact hr q (List.mem_cons_of_mem _ h) hc
  | (true, x, b, s) :: r, q, hr, h, hc => by
    have h : q ∈ (if t = [] then (true, x, b, s) :: r else tPc t :: (true, x, b, s) :: r) := h
    by_cases e : t = []
    · rw [if_pos e] at h; exact hr q h hc
    · rw [if_neg e] at h
      rcases List.mem_cons.1 h with rfl | h
      · rfl
      · exact hr q h hc
theorem text_normal : ∀ {l : List Pc} {q : Pc}, q ∈ normal l → q.1 = false → q = tPc q.2.1
  | (true, t, b, s) :: l, q, h, hc => by
    rcases List.mem_cons.1 h with rfl | h
    · cases hc
    · exact text_normal h hc
  | (false, t, b, s) :: l, q, h, hc => text_joinT t (fun p hp hc => text_normal hp hc) h hc
/-- A conflict that Trim leaves: its base, and its sides, are no longer. -/
theorem conf_small {p q : Pc} (h : smallP p) (hq : q ∈ trimD p) (hc : q.1 = true) : q.2.2.2.length ≤ 1000 ∧ (∀ d ∈ q.2.2.2, d.length ≤ 5000) ∧ q.2.2.1.length ≤ 10000 := by
  obtain ⟨cf, t, bs, ss⟩ := p
  obtain ⟨h1, h2, h3, h4⟩ := h
  dsimp only at h1 h2 h3 h4
  have one : q ∈ normal [(cf, t, bs, ss)] → q.2.2.2.length ≤ 1000 ∧ (∀ d ∈ q.2.2.2, d.length ≤ 5000) ∧ q.2.2.1.length ≤ 10000 := fun hq => by
    obtain ⟨t', ht⟩ := conf_normal hc hq
    simp at ht
    obtain ⟨rfl, -, e1, e2⟩ := ht
    rw [e1, e2]
    exact ⟨h2, h3, h4⟩
  cases cf with
  | false => exact one hq
  | true =>
    cases ss with
    | nil => exact one hq
    | cons f ds =>
      obtain ⟨t', ht⟩ := conf_normal hc (show q ∈ normal (trimL bs f (f :: ds)) from hq)
      obtain ⟨-, e⟩ := trimL_conf (List.mem_cons_self ..) ht rfl
      simp only [cPc, Prod.mk.injEq] at e
      obtain ⟨-, -, e1, e2⟩ := e
      rw [e1, e2]
      refine ⟨by rw [List.length_map]; exact h2, fun d hd => ?_, h4⟩
      obtain ⟨d', hd', rfl⟩ := List.mem_map.1 hd
      have := h3 d' hd'
      unfold leftD
      rw [List.length_take, List.length_drop]
      omega
theorem small_zeal {ps : List Pc} (h : smallZ ps) (hn : ps.length ≤ 30) (hs : ps.length * 10000 ≤ 5000 ∨ sumT (ps.flatMap trimD) ≤ 5000) : smallZ (zealD ps) := by
  have hsum : sumT (ps.flatMap trimD) ≤ 5000 := by
    rcases hs with hs | hs
    · exact Nat.le_trans (flat_sum h.2).1 hs
    · exact hs
  refine ⟨?_, fun q hq => ?_⟩
  · have h1 := (flat_sum (ps := ps) h.2).2
    have h2 := len_normal (ps.flatMap trimD)
    unfold zealD
    omega
  · unfold zealD at hq
    have hm := sumT_mem hq
    have hn2 := sumT_normal (ps.flatMap trimD)
    cases hc : q.1 with
    | false =>
      have e := text_normal hq hc
      refine ⟨by omega, ?_⟩
      rw [e]
      exact ⟨by simp [tPc], fun d hd => by simp [tPc] at hd, by simp [tPc]⟩
    | true =>
      obtain ⟨t, ht⟩ := conf_normal hc hq
      obtain ⟨p, hp, hm2⟩ := List.mem_flatMap.1 ht
      exact ⟨by omega, conf_small (q := (true, t, q.2.2.1, q.2.2.2)) (h.2 p hp) hm2 rfl⟩
/-- Few pieces made smaller hold few texts. -/
theorem few_sum : ∀ {ps : List Pc}, (∀ p ∈ ps, fewP1 p = true) → sumT (ps.flatMap trimD) ≤ ps.length * 40
  | [], _ => by simp [sumT]
  | p :: ps, h => by
    have h1 := few_sum (ps := ps) fun q hq => h q (List.mem_cons_of_mem _ hq)
    have h2 := h p (List.mem_cons_self ..)
    have e : sumT (trimD p ++ ps.flatMap trimD) = sumT (trimD p) + sumT (ps.flatMap trimD) := by simp [sumT]
    rw [List.flatMap_cons, List.length_cons, e]
    have h3 : sumT (trimD p) ≤ 40 := by
      obtain ⟨cf, t, bs, ss⟩ := p
      have ht := fewP1_text h2
      have hsd := fewP1_side h2
      dsimp only at ht hsd
      have one : sumT (normal [(cf, t, bs, ss)]) ≤ 40 := by
        have := sumT_normal [(cf, t, bs, ss)]
        have e2 : sumT [(cf, t, bs, ss)] = t.length := by simp [sumT]
        omega
      cases cf with
      | false => exact one
      | true =>
        cases ss with
        | nil => exact one
        | cons f ds =>
          show sumT (normal (trimL bs f (f :: ds))) ≤ 40
          have a1 := sumT_normal (trimL bs f (f :: ds))
          have a2 := (trimL_sum (base := bs) (f := f) (ds := f :: ds)).1
          have a3 := hsd f (List.mem_cons_self ..)
          omega
    omega
theorem few_zeal {ps : List Pc} (h : fewP ps = true) : smallZ (zealD ps) ∧ sumT (zealD ps) ≤ 480 := by
  obtain ⟨h1, h2⟩ := fewP_parts h
  have h3 := few_sum h2
  have h4 := sumT_normal (ps.flatMap trimD)
  refine ⟨small_zeal (few_small h) (by omega) (.inr (by omega)), ?_⟩
  unfold zealD
  omega
theorem smallN_of {ps : List Pc} (h : ∀ p ∈ ps, smallP p) : smallN ps := fun p hp => by
  obtain ⟨-, h1, h2, h3⟩ := h p hp
  refine ⟨h1, fun d hd => ?_⟩
  rcases List.mem_cons.1 hd with rfl | hd
  · omega
  · have := h2 d hd; omega
theorem few_part {ps qs : List Pc} (h : fewP ps = true) (hl : qs.length ≤ ps.length) (hm : ∀ p ∈ qs, p ∈ ps) : fewP qs = true := by
  obtain ⟨h1, h2⟩ := fewP_parts h
  unfold fewP
  rw [Bool.and_eq_true, decide_eq_true_eq, List.all_eq_true]
  exact ⟨by omega, fun p hp => h2 p (hm p (List.mem_of_mem_take hp))⟩
theorem own_empty4 (w : World) (base : Nat) (e : TypeId) (h : base ≤ w.heap.size) : (w.alloc (.cells #[] e)).ownsRow base e 4 (.slice (some ⟨w.heap.size, 0, none⟩) 0 0) 0 [] :=
  ⟨rfl, .inr ⟨w.heap.size, 0, #[], rfl, h, heap_alloc_new w _, Nat.le_refl _, Nat.zero_le _, rfl, rfl⟩⟩
end Go.Proofs.YtcpopnhnihbofaaGreatDoor
/- What the statements ask of package mark; few pieces are small ones. -/
namespace Go.Proofs.YtcpopnhnihbofaaGreatDoor
open Go.RowKit
set_option linter.unusedVariables false
set_option maxRecDepth 100000

/-- Texts that a call has made or was handed, and a number. -/
def PrintA (w w' : World) (e : Ending) (xs : Txs) (no : Int) : Prop := ∃ A n c, e = .returned (.tuple #[.slice A n c, .int .i64 no]) ∧ TxR w' w'.heap.size (A, n, c) xs ∧ Below w.heap.size w w'
theorem PrintOut.out {w w' : World} {e : Ending} {xs : Txs} {no : Int} (h : PrintOut w w' e xs no) : PrintA w w' e xs no := by
  obtain ⟨v, rfl, hv⟩ := h
  obtain ⟨A, c, rfl, h1, h2, h3⟩ := own_slice hv.own
  exact ⟨A, _, c, rfl, ⟨h1, h2, h3⟩, hv.below⟩
/-- The contract of mark.Print. -/
def MarkPrintOk : Prop := ∀ (A : Option Addr) (n c : Nat) (vs : List PcV) (ps : List Pc) (style long : Int) (w : World), n ≤ c → c ≤ maxLen → inR64 style → inR64 long → smallW ps → Pcs w w.heap.size A n vs ps →
    Calls Tryz.prog 8 #[.slice A n c, .int .i64 style, .int .i64 long] w fun e w' => PrintA w w' e (printM ps style long) (wrongM ps style long)

theorem fewB_txt {l : Txs} {k : Nat} (h : fewB l k = true) : ∀ s ∈ l, s.length ≤ 1000000 := fun s hs => by
  unfold fewB at h
  rw [Bool.and_eq_true, decide_eq_true_eq, List.take_of_length_le (by have := h; simp at this; omega), List.all_eq_true] at h
  have := h.2 s hs
  simp at this
  omega
theorem few_txt {ps : List Pc} (h : fewP ps = true) : ∀ d ∈ listsP ps, ∀ s ∈ d, s.length ≤ 1000000 := fun d hd s hs => by
  obtain ⟨p, hp, hx⟩ := mem_lists.1 hd
  have h3 := (fewP_parts h).2 p hp
  unfold fewP1 at h3
  rw [Bool.and_eq_true] at h3
  obtain ⟨h4, h5⟩ := h3
  obtain ⟨-, k1, -⟩ := fewT_parts h5
  unfold fewT at h5
  rw [Bool.and_eq_true, Bool.and_eq_true] at h5
  rcases hx with rfl | rfl | hx
  · exact fewB_txt h4 s hs
  · exact fewB_txt h5.1.1 s hs
  · have h6 := h5.2
    rw [List.take_of_length_le (by omega), List.all_eq_true] at h6
    exact fewB_txt (h6 d hx) s hs
theorem few_W {ps : List Pc} (h : fewP ps = true) : smallW ps := by
  have ht := few_txt h
  refine ⟨⟨few_small h, ht⟩, (few_zeal h).1, fun d hd s hs => ?_⟩
  obtain ⟨d', hd', hs'⟩ := List.mem_flatten.1 (lines_zeal (List.mem_flatten.2 ⟨d, hd, hs⟩))
  exact ht d' hd' s hs'
end Go.Proofs.YtcpopnhnihbofaaGreatDoor
/- Proved here, without conditions on the program: what the styles have in common (layer 12). -/
namespace Go.Proofs.YtcpopnhnihbofaaGreatDoor
set_option linter.unusedVariables false
set_option maxRecDepth 100000

section
variable {ps : List Pc} {long : Int}
theorem wrong_two (h : wrongM ps 1 long = 0) : wrongM ps 2 long = 0 := by
  obtain ⟨g1, g2, g3, g4, g5⟩ := wrongM_none.1 h
  exact wrongM_none.2 ⟨by omega, g2, g3, fun h => absurd h (by decide), g5⟩
theorem wrong_clean (hc : cleanB ps = true) (h : wrongM ps 1 long = 0) : wrongM ps 3 long = 0 ∧ zealD ps = ps := by
  obtain ⟨g1, g2, g3, g4, g5⟩ := wrongM_none.1 h
  have e : zealD ps = ps := (zeal_clean hc).trans (formB_form g3).1.symm
  exact ⟨wrongM_none.2 ⟨by omega, g2, g3, fun _ => by rw [e]; exact g3, g5⟩, e⟩
theorem piece_more {lg : Nat} {p : Pc} (h : p.1 = true → p.2.2.2 ≠ []) : (pieceM 1 lg p).length ≤ (pieceM 2 lg p).length ∧ (p.1 = true → (pieceM 1 lg p).length < (pieceM 2 lg p).length) := by
  unfold pieceM
  cases hc : p.1 with
  | false => simp
  | true =>
    have hs := h hc
    rw [if_pos rfl, if_pos rfl]
    cases hss : p.2.2.2 with
    | nil => exact absurd hss hs
    | cons f ds =>
      have : (confM 1 lg p.2.2.1 (f :: ds)).length < (confM 2 lg p.2.2.1 (f :: ds)).length := by
        rw [conf_split, conf_split, if_pos rfl, if_neg (by decide)]
        simp only [List.length_append, List.length_singleton, sides_len]
        omega
      exact ⟨Nat.le_of_lt this, fun _ => this⟩
theorem lines_more {lg : Nat} : ∀ {ps : List Pc}, (∀ p ∈ ps, p.1 = true → p.2.2.2 ≠ []) → (linesM 1 lg ps).length ≤ (linesM 2 lg ps).length ∧ (cleanB ps = false → (linesM 1 lg ps).length < (linesM 2 lg ps).length)
  | [], _ => ⟨Nat.le_refl _, fun h => by cases h⟩
  | p :: ps, h => by
    obtain ⟨h1, h2⟩ := lines_more (lg := lg) (ps := ps) fun q hq => h q (List.mem_cons_of_mem _ hq)
    obtain ⟨h3, h4⟩ := piece_more (lg := lg) (h p (List.mem_cons_self ..))
    unfold linesM cleanB at *
    rw [List.flatMap_cons, List.flatMap_cons, List.length_append, List.length_append, List.all_cons]
    refine ⟨by omega, fun hc => ?_⟩
    rw [Bool.and_eq_false_iff] at hc
    rcases hc with hc | hc
    · have := h4 (by simpa using hc)
      omega
    · have := h2 hc
      omega
theorem few_bare (h : fewP ps = true) : fewP (ps.map bareP) = true := by
  obtain ⟨h1, h2⟩ := fewP_parts h
  unfold fewP
  rw [Bool.and_eq_true, decide_eq_true_eq, List.length_map, List.all_eq_true]
  refine ⟨h1, fun q hq => ?_⟩
  obtain ⟨p, hp, rfl⟩ := List.mem_map.1 (List.mem_of_mem_take hq)
  have h3 := h2 p hp
  unfold fewP1 at h3 ⊢
  rw [Bool.and_eq_true] at h3 ⊢
  refine ⟨h3.1, ?_⟩
  have h4 := h3.2
  unfold fewT at h4 ⊢
  rw [Bool.and_eq_true, Bool.and_eq_true] at h4 ⊢
  exact ⟨⟨rfl, h4.1.2⟩, h4.2⟩
end
end Go.Proofs.YtcpopnhnihbofaaGreatDoor
/- Proved here, without conditions on the program: what is printed, reckoned piece by piece (layer 12). -/
namespace Go.Proofs.YtcpopnhnihbofaaGreatDoor
set_option linter.unusedVariables false
set_option maxRecDepth 100000

def sumP (f : Pc → Nat) (ps : List Pc) : Nat := (ps.map f).sum
theorem sumP_take {f : Pc → Nat} {ps : List Pc} {i : Nat} {p : Pc} (h : ps[i]? = some p) : sumP f (ps.take (i + 1)) = sumP f (ps.take i) + f p := by
  unfold sumP
  rw [take_at h, List.map_append, List.sum_append]
  simp
theorem sumP_cons {f : Pc → Nat} {ps : List Pc} {p : Pc} : sumP f (p :: ps) = f p + sumP f ps := by
  unfold sumP
  rw [List.map_cons, List.sum_cons]
section
variable {d : Txs} {m lg : Nat} {style : Int}
theorem closed_txt (h : ∀ t ∈ d, t.length ≤ m) : ∀ t ∈ closed d, t.length ≤ m + 1 := by
  unfold closed
  split
  · rename_i s hs
    split
    · exact fun t ht => Nat.le_succ_of_le (h t ht)
    · intro t ht
      rcases List.mem_append.1 ht with ht | ht
      · exact Nat.le_succ_of_le (h t (List.dropLast_subset _ ht))
      · simp at ht
        subst ht
        have := h s (List.mem_of_getLast? hs)
        simp
        exact this
  · exact fun t ht => Nat.le_succ_of_le (h t ht)
theorem mark_len {sg : UInt8} {ah : Txs} {lab : Tx} : (markT sg lg ah lab).length ≤ lg + 2 + lab.length := by
  unfold markT
  simp only [List.length_append, List.length_replicate, List.length_singleton]
  split <;> simp <;> omega
theorem sides_txt : ∀ {ds : List Txs} {ah : Txs} {n : Nat}, (∀ d ∈ ds, ∀ t ∈ d, t.length ≤ m) → ∀ t ∈ sidesM lg ah n ds, t.length ≤ m + lg + 20
  | [], ah, n, h, t, ht => by
    unfold sidesM at ht
    rw [List.mem_singleton] at ht
    have := mark_len (lg := lg) (sg := 62) (ah := ah) (lab := [])
    rw [ht]
    simp at this
    omega
  | d :: ds, ah, n, h, t, ht => by
    unfold sidesM at ht
    rcases List.mem_cons.1 ht with rfl | ht
    · have := mark_len (lg := lg) (sg := 61) (ah := ah) (lab := 32 :: numT n)
      have h2 : (32 :: numT n).length ≤ 3 := by unfold numT; split <;> simp
      omega
    · rcases List.mem_append.1 ht with ht | ht
      · have := closed_txt (h d (List.mem_cons_self ..)) t ht
        omega
      · exact sides_txt (fun e he => h e (List.mem_cons_of_mem _ he)) t ht
theorem lines_txt {ps : List Pc} (h : ∀ x ∈ listsP ps, ∀ t ∈ x, t.length ≤ m) : ∀ t ∈ linesM style lg ps, t.length ≤ m + lg + 20 := by
  intro t ht
  unfold linesM at ht
  obtain ⟨p, hp, ht⟩ := List.mem_flatMap.1 ht
  have h1 := h p.2.1 (mem_lists.2 ⟨p, hp, .inl rfl⟩)
  have h2 := h p.2.2.1 (mem_lists.2 ⟨p, hp, .inr (.inl rfl)⟩)
  have h3 : ∀ x ∈ p.2.2.2, ∀ t ∈ x, t.length ≤ m := fun x hx => h x (mem_lists.2 ⟨p, hp, .inr (.inr hx)⟩)
  unfold pieceM at ht
  split at ht
  · cases hs : p.2.2.2 with
    | nil => rw [hs] at ht; unfold confM at ht; cases ht
    | cons f ds =>
      rw [hs] at h3 ht
      have k1 := closed_txt (h3 f (List.mem_cons_self ..))
      have k2 := closed_txt h2
      have k3 := fun ah n => sides_txt (lg := lg) (ah := ah) (n := n) (fun e he => h3 e (List.mem_cons_of_mem _ he))
      have k4 := mark_len (lg := lg) (sg := 60) (ah := []) (lab := [32, 49])
      have k5 := mark_len (lg := lg) (sg := 124) (ah := f) (lab := [32, 98, 97, 115, 101])
      simp only [List.length_cons, List.length_nil] at k4 k5
      rw [conf_split] at ht
      split at ht
      · simp only [List.mem_append, List.mem_singleton] at ht
        rcases ht with (rfl | ht) | ht
        · omega
        · have := k1 t ht; omega
        · exact k3 _ _ t ht
      · simp only [List.mem_append, List.mem_singleton] at ht
        rcases ht with (((rfl | ht) | rfl) | ht) | ht
        · omega
        · have := k1 t ht; omega
        · omega
        · have := k2 t ht; omega
        · exact k3 _ _ t ht
  · have := h1 t ht
    omega
theorem normal_conf_text : ∀ {l : List Pc} {q : Pc}, q ∈ normal l → q.1 = true → q.2.1 = []
  | [], q, h, _ => by simp [normal] at h
  | (true, t, b, s) :: l, q, h, hc => by
    rw [normal] at h
    rcases List.mem_cons.1 h with rfl | h
    · rfl
    · exact normal_conf_text h hc
  | (false, t, b, s) :: l, q, h, hc => normal_conf_text (conf_join hc t h) hc
/-- How many marks, how many lines. -/
theorem lines_cnt {ks : List Pc} (hn : ks = normal ks) (hs : ∀ p ∈ ks, p.1 = true → p.2.2.2 ≠ []) (hr : ∀ x ∈ listsP ks, ∀ t ∈ x, runN t < lg) : cntM lg (linesM style lg ks) = sumP (marksP style) ks ∧ (linesM style lg ks).length = sumP (wantP style) ks + sumP (marksP style) ks := by
  have hc : ∀ p ∈ ks, p.1 = true → p.2.1 = [] := fun p hp h => normal_conf_text (by rw [← hn]; exact hp) h
  have ht : ∀ p ∈ ks, p.1 = false → p.2.2.2 = [] := fun p hp h => by rw [text_normal (by rw [← hn]; exact hp) h]; rfl
  have hx : ∀ p ∈ ks, ∀ d ∈ p.2.1 :: p.2.2.1 :: p.2.2.2, ∀ t ∈ d, runN t < lg := fun p hp d hd => hr d (mem_lists.2 ⟨p, hp, by simpa only [List.mem_cons] using hd⟩)
  clear hn hr
  induction ks with
  | nil => exact ⟨rfl, rfl⟩
  | cons p ks ih =>
    obtain ⟨i1, i2⟩ := ih (fun q hq => hs q (List.mem_cons_of_mem _ hq)) (fun q hq => hc q (List.mem_cons_of_mem _ hq)) (fun q hq => ht q (List.mem_cons_of_mem _ hq)) (fun q hq => hx q (List.mem_cons_of_mem _ hq))
    obtain ⟨j1, j2⟩ := piece_cnt (long := lg) (style := style) (p := p) (fun h => ⟨hc p (List.mem_cons_self ..) h, hs p (List.mem_cons_self ..) h⟩) (ht p (List.mem_cons_self ..)) (hx p (List.mem_cons_self ..))
    unfold linesM at *
    rw [List.flatMap_cons, cnt_append, List.length_append, sumP_cons, sumP_cons]
    omega
end
end Go.Proofs.YtcpopnhnihbofaaGreatDoor
/- Proved here, without conditions on the program: what is printed is read; how long its texts are. -/
namespace Go.Proofs.YtcpopnhnihbofaaGreatDoor
open Go.RowKit
set_option linter.unusedVariables false
set_option maxRecDepth 100000

theorem lines_styB (long : Nat) (l : List Pc) : linesM 3 long l = linesM 2 long l := by
  unfold linesM
  congr 1
theorem styP_one (l : List Pc) : l.map (styP 1) = l.map bareP := rfl
theorem styP_two (l : List Pc) : l.map (styP 2) = l := by
  have : styP 2 = id := by
    funext p
    obtain ⟨a, b, c, d⟩ := p
    rfl
  rw [this, List.map_id]
theorem clean_bare (l : List Pc) : cleanB (l.map bareP) = cleanB l := by
  unfold cleanB
  rw [List.all_map]
  rfl
theorem back_read {ks : List Pc} {sty : Int} {lg : Nat} (h1 : 1 ≤ lg) (h2 : lg ≤ 4096) (hst : sty = 1 ∨ sty = 2) (hw : wrongM ks sty (lg : Int) = 0) : parseM (linesM sty lg ks) (lg : Int) = (ks.map (styP sty), if cleanB ks = true then 1 else sty, 0, 0) := by
  obtain ⟨g1, g2, g3, g4, g5⟩ := wrongM_none.1 hw
  obtain ⟨f1, f2⟩ := formB_form g3
  have hP : Put (!([] : Txs).isEmpty) ks := by
    show Put false ks
    rw [f1]
    exact put_normal ks
  obtain ⟨s, e1, e2, e3⟩ := walk_back (long := lg) h1 hst (l := ks) (out := []) (cur := []) (st := 0) (i := 0) f2 hP g2 (fun t ht => by have := (fits_iff.1 g5).2 t ht; omega) (.inl rfl)
  rw [parseM_res _ lg h1 h2]
  show resM (walkM lg ⟨[], [], 0, none⟩ (linesM sty lg ks) 0) = _
  rw [e1]
  show (flushM s.out s.cur, max s.style 1, (0 : Int), (0 : Int)) = _
  rw [e2, e3]
  have hm : max (if cleanB ks = true then (0 : Int) else sty) 1 = if cleanB ks = true then 1 else sty := by
    rcases hst with rfl | rfl <;> split <;> rfl
  rw [hm]
  rfl
theorem fewB_100 {l : Txs} {k : Nat} (h : fewB l k = true) : ∀ s ∈ l, s.length ≤ 100 := fun s hs => by
  unfold fewB at h
  rw [Bool.and_eq_true, decide_eq_true_eq, List.take_of_length_le (by have := h; simp at this; omega), List.all_eq_true] at h
  simpa using h.2 s hs
theorem few_100 {ps : List Pc} (h : fewP ps = true) : ∀ d ∈ listsP ps, ∀ s ∈ d, s.length ≤ 100 := fun d hd s hs => by
  obtain ⟨p, hp, hx⟩ := mem_lists.1 hd
  have h3 := (fewP_parts h).2 p hp
  unfold fewP1 at h3
  rw [Bool.and_eq_true] at h3
  obtain ⟨h4, h5⟩ := h3
  obtain ⟨-, k1, -⟩ := fewT_parts h5
  unfold fewT at h5
  rw [Bool.and_eq_true, Bool.and_eq_true] at h5
  rcases hx with rfl | rfl | hx
  · exact fewB_100 h4 s hs
  · exact fewB_100 h5.1.1 s hs
  · have h6 := h5.2
    rw [List.take_of_length_le (by omega), List.all_eq_true] at h6
    exact fewB_100 (h6 d hx) s hs
/-- What is printed of few pieces isn't too long. -/
theorem small_lines {ks : List Pc} {sty : Int} {lg : Nat} (hlg : lg ≤ 40) (hs : smallK ks) (h100 : ∀ d ∈ listsP ks, ∀ s ∈ d, s.length ≤ 100) (hc : ∀ p ∈ ks, p.1 = true → p.2.2.2 ≠ [] ∧ p.2.2.2.length ≤ 16) : smallL (linesM sty lg ks) := by
  constructor
  · have h1 := lines_sum (style := sty) (long := lg) (ps := ks) fun p hp => ⟨hs.1.2 p hp, fun h => (hc p hp h).2⟩
    have := hs.1.1
    omega
  · intro t ht
    have := lines_txt (style := sty) (lg := lg) h100 t ht
    omega
theorem zeal_100 {ps : List Pc} (h : ∀ d ∈ listsP ps, ∀ s ∈ d, s.length ≤ 100) : ∀ d ∈ listsP (zealD ps), ∀ s ∈ d, s.length ≤ 100 := fun d hd s hs => by
  obtain ⟨d', hd', hs'⟩ := List.mem_flatten.1 (lines_zeal (List.mem_flatten.2 ⟨d, hd, hs⟩))
  exact h d' hd' s hs'
/-- What a law prints: as lines of pieces, in one of two styles. -/
theorem print_read {ps : List Pc} {how : Int} {lg : Nat} (hf : fewP ps = true) (hlg : lg ≤ 40) (hw : wrongM ps how (lg : Int) = 0) :
    ∃ (ks : List Pc) (sty : Int), ks = (if how = 3 then zealD ps else ps) ∧ sty = (if how = 1 then 1 else 2) ∧ printM ps how (lg : Int) = linesM sty lg ks ∧ parseM (linesM sty lg ks) (lg : Int) = (ks.map (styP sty), if cleanB ks = true then 1 else sty, 0, 0) ∧ smallL (linesM sty lg ks) := by
  obtain ⟨g1, g2, g3, g4, g5⟩ := wrongM_none.1 hw
  have hsm := few_W hf
  have h100 := few_100 hf
  rcases (by omega : how = 1 ∨ how = 2 ∨ how = 3) with rfl | rfl | rfl
  · exact ⟨ps, 1, rfl, rfl, by unfold printM; rw [if_pos hw, if_neg (by decide), Int.toNat_natCast], back_read (by omega) (by omega) (.inl rfl) hw, small_lines hlg hsm.1 h100 g2⟩
  · exact ⟨ps, 2, rfl, rfl, by unfold printM; rw [if_pos hw, if_neg (by decide), Int.toNat_natCast], back_read (by omega) (by omega) (.inr rfl) hw, small_lines hlg hsm.1 h100 g2⟩
  · have hz := zeal_right hw
    exact ⟨zealD ps, 2, rfl, rfl, by unfold printM; rw [if_pos hw, if_pos rfl, Int.toNat_natCast, lines_styB], back_read (by omega) (by omega) (.inr rfl) hz, small_lines hlg hsm.2 (zeal_100 h100) (wrongM_none.1 hz).2.1⟩
end Go.Proofs.YtcpopnhnihbofaaGreatDoor
/- Proved here: the contract of the document's own answer of layer 12: May. -/
namespace Go.Proofs.YtcpopnhnihbofaaGreatDoor
open Go.RowKit
set_option linter.unusedVariables false
set_option maxRecDepth 100000

/-- May pieces be printed? -/
def mayM (ps : List Pc) (style long : Int) : Bool := fewP ps && (decide (long ≤ 40) && decide (wrongM ps style long = 0))
theorem mayM_parts {ps : List Pc} {style long : Int} (h : mayM ps style long = true) : fewP ps = true ∧ long ≤ 40 ∧ wrongM ps style long = 0 := by
  unfold mayM at h
  rw [Bool.and_eq_true, Bool.and_eq_true, decide_eq_true_eq, decide_eq_true_eq] at h
  exact h

set_option maxHeartbeats 4000000 in
theorem rMkMay_any (A : Option Addr) (n c : Nat) (vs : List PcV) (ps : List Pc) (style long : Int) (w : World) (hnc : n ≤ c) (hcm : c ≤ maxLen) (hst : inR64 style) (hlg : inR64 long) (hA : Pcs w w.heap.size A n vs ps) :
    Calls Tryz.prog 7 #[.slice A n c, .int .i64 style, .int .i64 long] w fun e w' => e = .returned (.bool (mayM ps style long)) ∧ Below w.heap.size w w' := by
  obtain ⟨fm, hfm⟩ : ∃ fm, fewP ps = fm := ⟨_, rfl⟩
  have hF := Lib.hid (pFew_any A n c w.heap.size vs ps w (Nat.le_trans hnc hcm) hA)
  rw [hfm] at hF
  cases fm
  · have hm : Hid (mayM ps style long = false) := Lib.hid (by unfold mayM; rw [hfm]; rfl)
    clear hA hfm hst hlg
    go_enter Tryz.func7, Tryz.ntmps7
    go_wp2_with (go_at_call 18; refine hF.out.mono ?_; rintro e w2 ⟨rfl, q2, rfl⟩)
    go_ret
    exact ⟨by rw [hm.out]; rfl, below_drewN (Below.refl _ _) q2⟩
  have hm : Hid (mayM ps style long = (decide (long ≤ 40) && decide (wrongM ps style long = 0))) := Lib.hid (by unfold mayM; rw [hfm]; rfl)
  by_cases h40 : long ≤ 40
  · have hsm := few_W hfm
    have hW := Lib.hid (fun (W : World) (hb : Below w.heap.size w W) => rWrong_any A n c vs ps style long W hnc hcm hst hlg hsm (hA.up hb))
    obtain ⟨no, hno⟩ : ∃ no, wrongM ps style long = no := ⟨_, rfl⟩
    rw [hno] at hW hm
    rw [decide_eq_true h40, Bool.true_and] at hm
    clear hA hfm hsm hno hst hlg
    by_cases hz : no = 0
    case' pos =>
      subst hz
    case' neg =>
      have hnb : (no == 0) = false := by rw [beq_eq_false_iff_ne]; exact hz
    all_goals
      go_enter Tryz.func7, Tryz.ntmps7
      go_wp2_with (first
        | (go_at_call 18; refine hF.out.mono ?_; rintro e w2 ⟨rfl, q2, hw2⟩; have hB2 : Hid (Below w.heap.size w w2) := Lib.hid (by rw [hw2]; exact below_drewN (Below.refl _ _) q2); clear hw2)
        | (go_at_call 19; refine (hW.out _ hB2.out).mono ?_; rintro e w3 ⟨rfl, q3⟩; have hB3 := Lib.hid (hB2.out.trans (q3.mono hB2.out.size)); clear q3))
      go_ret
      exact ⟨by rw [hm.out]; simp_all, hB3.out⟩
  · rw [decide_eq_false h40, Bool.false_and] at hm
    clear hA hfm hst hlg
    go_enter Tryz.func7, Tryz.ntmps7
    go_wp2_with (go_at_call 18; refine hF.out.mono ?_; rintro e w2 ⟨rfl, q2, rfl⟩)
    go_ret
    exact ⟨by rw [hm.out]; rfl, below_drewN (Below.refl _ _) q2⟩
end Go.Proofs.YtcpopnhnihbofaaGreatDoor
