/- Proved here, without conditions: plain facts on what lies between the parts of two lists: the changes of a match, and the match that has given changes. -/
import Derived.Test.YtijinhhlikhjfaaEditPure
namespace Go.Proofs.Ytijinhhlikhjfaa
set_option linter.unusedVariables false

/-- A pair as a part. -/
def pt (p : Int × Int) : Ch := ((p.1, p.1 + 1), (p.2, p.2 + 1))
/-- What lies ahead of the first part, between each two, and behind the last one. -/
def gapL (m n : Int) : List Ch → Int → Int → List Ch
  | [], x, y => [((x, m), (y, n))]
  | p :: ps, x, y => ((x, p.1.1), (y, p.2.1)) :: gapL m n ps p.1.2 p.2.2
def emp (c : Ch) : Bool := decide (c.1.1 = c.1.2) && decide (c.2.1 = c.2.2)
def lenO (c : Ch) : Int := c.1.2 - c.1.1
def lenN (c : Ch) : Int := c.2.2 - c.2.1

theorem gapL_len (m n : Int) : ∀ (ps : List Ch) (x y : Int), (gapL m n ps x y).length = ps.length + 1
  | [], _, _ => rfl
  | p :: ps, x, y => by show (gapL m n ps p.1.2 p.2.2).length + 1 = _; rw [gapL_len m n ps]; rfl

/-- The changes of pairs are what isn't empty between them. -/
theorem gap_pairs (m n : Int) : ∀ (ps : List (Int × Int)) (x y : Int), x ≤ m → y ≤ n → (∀ p ∈ ps, x ≤ p.1 ∧ p.1 < m ∧ y ≤ p.2 ∧ p.2 < n) → ps.Pairwise (fun p q => p.1 < q.1 ∧ p.2 < q.2) →
    (gapL m n (ps.map pt) x y).filter (fun c => !emp c) = chP m n ps x y
  | [], x, y, hx, hy, _, _ => by
    by_cases h : x < m ∨ y < n
    · have he : emp ((x, m), (y, n)) = false := by simp [emp]; omega
      simp [gapL, chP, he, h]
    · have he : emp ((x, m), (y, n)) = true := by simp [emp]; omega
      simp [gapL, chP, he, h]
  | p :: ps, x, y, hx, hy, hp, hr => by
    obtain ⟨h1, h2, h3, h4⟩ := hp p (List.mem_cons_self ..)
    rw [List.pairwise_cons] at hr
    have ih := gap_pairs m n ps (p.1 + 1) (p.2 + 1) (by omega) (by omega) (fun q hq => by
      have := hr.1 q hq; have := hp q (List.mem_cons_of_mem _ hq); omega) hr.2
    by_cases h : x < p.1 ∨ y < p.2
    · have he : emp ((x, p.1), (y, p.2)) = false := by simp [emp]; omega
      simp only [List.map_cons, gapL, pt, List.filter_cons, he, Bool.not_false, if_true, chP, if_pos h]
      rw [← ih]
      rfl
    · have he : emp ((x, p.1), (y, p.2)) = true := by simp [emp]; omega
      simp only [List.map_cons, gapL, pt, List.filter_cons, he, Bool.not_true, chP, if_neg h]
      rw [← ih]
      rfl

theorem chs_gap {l : List Int} {n : Int} (h : may l n = true) : (gapL l.length n ((prL l 0).map pt) 0 0).filter (fun c => !emp c) = chs l n := by
  obtain ⟨h0, hm⟩ := may_parts h
  unfold chs
  rw [chL_pairs, gap_pairs]
  · simp
  · omega
  · exact h0
  · intro p hp
    rw [prL_mem] at hp
    obtain ⟨h1, h2, h3⟩ := hp
    have h4 := mayL_mem hm p.2 (List.mem_of_getElem? h2) h3
    have h5 := (List.getElem?_eq_some_iff.1 h2).1
    omega
  · exact prL_rise n l 0 0 hm

/-! ### Which changes may be -/
/-- What lies between two changes can't be paired place by place, or is nothing. -/
def bad (g : Ch) (outer : Bool) : Bool := !decide (lenO g = lenN g) || decide (lenO g < 0) || (emp g && !outer)
theorem bad_iff {x m y n : Int} {o : Bool} : (!bad ((x, m), (y, n)) o) = true ↔ m - x = n - y ∧ 0 ≤ m - x ∧ (o = true ∨ x < m) := by
  have h1 : lenO ((x, m), (y, n)) = m - x := rfl
  have h2 : lenN ((x, m), (y, n)) = n - y := rfl
  unfold bad
  rw [h1, h2]
  by_cases e1 : m - x = n - y
  · by_cases e2 : m - x < 0
    · simp [e1]; omega
    · cases o
      · simp [e1, emp]; omega
      · simp [e1]
  · simp [e1]
/-- None of these is so; k have come ahead of them; behind e the last one comes. -/
def okG (e : Nat) : List Ch → Nat → Bool
  | [], _ => true
  | g :: gs, k => !bad g (decide (k = 0) || decide (k = e)) && okG e gs (k + 1)
theorem okG_append (e : Nat) : ∀ (l r : List Ch) (k : Nat), okG e (l ++ r) k = (okG e l k && okG e r (k + l.length))
  | [], r, k => by simp [okG]
  | g :: l, r, k => by
    simp only [List.cons_append, okG, okG_append e l r (k + 1), List.length_cons]
    rw [Bool.and_assoc, show k + 1 + l.length = k + (l.length + 1) by omega]
def fits (m n : Int) (c : Ch) : Bool := !emp c && (decide (0 ≤ c.1.1) && decide (c.1.1 ≤ c.1.2) && decide (c.1.2 ≤ m)) && (decide (0 ≤ c.2.1) && decide (c.2.1 ≤ c.2.2) && decide (c.2.2 ≤ n))
/-- What areChanges tells. -/
def areB (l : List Ch) (m n : Int) : Bool := l.all (fits m n) && okG l.length (gapL m n l 0 0) 0

/-- The same, change by change. -/
def okL (m n : Int) : List Ch → Bool → Int → Int → Bool
  | [], _, x, y => decide (m - x = n - y) && decide (0 ≤ m - x)
  | c :: cs, first, x, y => (decide (c.1.1 - x = c.2.1 - y) && decide (0 ≤ c.1.1 - x) && (first || decide (x < c.1.1))) && okL m n cs false c.1.2 c.2.2
theorem okG_okL (m n : Int) (e : Nat) : ∀ (cs : List Ch) (x y : Int) (k : Nat), k + cs.length = e → okG e (gapL m n cs x y) k = okL m n cs (decide (k = 0)) x y
  | [], x, y, k, hk => by
    have : k = e := by simpa using hk
    subst this
    simp only [gapL, okG, okL]
    rw [Bool.eq_iff_iff, Bool.and_true, bad_iff]
    simp
  | c :: cs, x, y, k, hk => by
    have hne : k ≠ e := by simp at hk; omega
    simp only [gapL, okG, okL]
    rw [okG_okL m n e cs _ _ (k + 1) (by simp at hk; omega)]
    have h0 : decide (k + 1 = 0) = false := by simp
    rw [h0]
    congr 1
    have hd : decide (k = e) = false := by simpa using hne
    rw [hd, Bool.or_false]
    rw [Bool.eq_iff_iff, bad_iff]
    cases decide (k = 0) <;> simp [and_assoc]

/-- From y on, k numbers. -/
def runL : Nat → Int → List Int
  | 0, _ => []
  | k + 1, y => y :: runL k (y + 1)
theorem runL_len : ∀ (k : Nat) (y : Int), (runL k y).length = k
  | 0, _ => rfl
  | k + 1, y => by simp [runL, runL_len k]
theorem runL_snoc : ∀ (k : Nat) (y : Int), runL (k + 1) y = runL k y ++ [y + k]
  | 0, y => by simp [runL]
  | k + 1, y => by
    show y :: runL (k + 1) (y + 1) = (y :: runL k (y + 1)) ++ _
    rw [runL_snoc k (y + 1), List.cons_append]
    congr 3
    omega
/-- The match that has the changes. -/
def fillL (m : Int) : List Ch → Int → Int → List Int
  | [], x, y => runL (m - x).toNat y
  | c :: cs, x, y => runL (c.1.1 - x).toNat y ++ (List.replicate (c.1.2 - c.1.1).toNat (-1) ++ fillL m cs c.1.2 c.2.2)

theorem chL_runG (n : Int) (r : List Int) : ∀ (k : Nat) (x y : Int), 0 ≤ y → chL n (runL k y ++ r) x x y = chL n r (x + k) (x + k) (y + k)
  | 0, x, y, _ => by simp [runL]
  | k + 1, x, y, hy => by
    show chL n (y :: (runL k (y + 1) ++ r)) x x y = _
    rw [chL, if_neg (by omega), if_neg (by omega), List.nil_append, chL_runG n r k (x + 1) (y + 1) (by omega)]
    congr 1 <;> omega
theorem chL_rep (n : Int) (r : List Int) : ∀ (k : Nat) (i x y : Int), chL n (List.replicate k (-1) ++ r) i x y = chL n r (i + k) x y
  | 0, i, x, y => by simp
  | k + 1, i, x, y => by
    rw [List.replicate_succ, List.cons_append, chL, if_pos rfl, chL_rep n r k (i + 1) x y]
    congr 1; omega

theorem okL_cons {m n x y : Int} {c : Ch} {cs : List Ch} {f : Bool} (h : okL m n (c :: cs) f x y = true) : c.1.1 - x = c.2.1 - y ∧ 0 ≤ c.1.1 - x ∧ (f = true ∨ x < c.1.1) ∧ okL m n cs false c.1.2 c.2.2 = true := by
  simp only [okL, Bool.and_eq_true, decide_eq_true_eq, Bool.or_eq_true] at h
  exact ⟨h.1.1.1, h.1.1.2, h.1.2, h.2⟩
theorem okL_nil {m n x y : Int} {f : Bool} (h : okL m n [] f x y = true) : m - x = n - y ∧ 0 ≤ m - x := by
  simpa [okL] using h
theorem fits_parts {m n : Int} {c : Ch} (h : fits m n c = true) : (c.1.1 < c.1.2 ∨ c.2.1 < c.2.2) ∧ 0 ≤ c.1.1 ∧ c.1.1 ≤ c.1.2 ∧ c.1.2 ≤ m ∧ 0 ≤ c.2.1 ∧ c.2.1 ≤ c.2.2 ∧ c.2.2 ≤ n := by
  simp [fits, emp] at h
  omega

theorem chL_nil_end (n x : Int) : chL n [] x x n = [] := by simp [chL]

/-- The changes of the match that was filled in, where one change is still to be told. -/
theorem chL_fill (m n : Int) : ∀ (cs : List Ch) (c : Ch), fits m n c = true → (∀ d ∈ cs, fits m n d = true) → okL m n cs false c.1.2 c.2.2 = true →
    chL n (fillL m cs c.1.2 c.2.2) c.1.2 c.1.1 c.2.1 = c :: cs
  | [], c, hc, _, h => by
    obtain ⟨h1, h2⟩ := okL_nil h
    have hf := fits_parts hc
    unfold fillL
    obtain ⟨k, hk⟩ : ∃ k : Nat, m - c.1.2 = k := ⟨(m - c.1.2).toNat, by omega⟩
    rw [hk]
    cases k with
    | zero =>
      simp only [Int.toNat_natCast, runL, chL]
      have e : n = c.2.2 := by omega
      rw [e, if_pos hf.1]
    | succ k =>
      simp only [Int.toNat_natCast, runL]
      rw [chL, if_neg (by omega), if_pos hf.1]
      have := chL_runG n [] k (c.1.2 + 1) (c.2.2 + 1) (by omega)
      rw [List.append_nil] at this
      rw [this, show c.2.2 + 1 + (k : Int) = n by omega, chL_nil_end]
      rfl
  | d :: ds, c, hc, hds, h => by
    obtain ⟨h1, h2, h3, h4⟩ := okL_cons h
    have hf := fits_parts hc
    have hd := fits_parts (hds d (List.mem_cons_self ..))
    unfold fillL
    obtain ⟨k, hk⟩ : ∃ k : Nat, d.1.1 - c.1.2 = (k + 1 : Nat) := ⟨(d.1.1 - c.1.2 - 1).toNat, by simp at h3; omega⟩
    rw [hk]
    simp only [Int.toNat_natCast, runL, List.cons_append]
    rw [chL, if_neg (by omega), if_pos hf.1, chL_runG _ _ _ _ _ (by omega), chL_rep]
    have e1 : c.1.2 + 1 + (k : Int) = d.1.1 := by omega
    have e2 : c.2.2 + 1 + (k : Int) = d.2.1 := by omega
    have e3 : d.1.1 + ((d.1.2 - d.1.1).toNat : Int) = d.1.2 := by omega
    rw [e1, e2, e3, chL_fill m n ds d (hds d (List.mem_cons_self ..)) (fun q hq => hds q (List.mem_cons_of_mem _ hq)) h4]
    rfl

theorem chs_fill {m n : Int} {l : List Ch} (h0 : 0 ≤ m) (hn : 0 ≤ n) (hf : ∀ d ∈ l, fits m n d = true) (h : okL m n l true 0 0 = true) : chs (fillL m l 0 0) n = l := by
  unfold chs
  cases l with
  | nil =>
    obtain ⟨h1, h2⟩ := okL_nil h
    unfold fillL
    have := chL_runG n [] (m - 0).toNat 0 0 (Int.le_refl _)
    rw [List.append_nil] at this
    rw [this, show (0 : Int) + ((m - 0).toNat : Int) = n by omega, chL_nil_end]
  | cons d ds =>
    obtain ⟨h1, h2, h3, h4⟩ := okL_cons h
    have hd := fits_parts (hf d (List.mem_cons_self ..))
    unfold fillL
    rw [chL_runG _ _ _ _ _ (Int.le_refl _), chL_rep]
    have e1 : (0 : Int) + ((d.1.1 - 0).toNat : Int) = d.1.1 := by omega
    have e2 : (0 : Int) + ((d.1.1 - 0).toNat : Int) = d.2.1 := by omega
    have e3 : d.1.1 + ((d.1.2 - d.1.1).toNat : Int) = d.1.2 := by omega
    have hA : chL n (fillL m ds d.1.2 d.2.2) (0 + ((d.1.1 - 0).toNat : Int) + ((d.1.2 - d.1.1).toNat : Int)) (0 + ((d.1.1 - 0).toNat : Int)) (0 + ((d.1.1 - 0).toNat : Int)) = chL n (fillL m ds d.1.2 d.2.2) d.1.2 d.1.1 d.2.1 := by
      congr 1
      omega
    rw [hA, chL_fill m n ds d (hf d (List.mem_cons_self ..)) (fun q hq => hf q (List.mem_cons_of_mem _ hq)) h4]

theorem mayL_run (n : Int) (r : List Int) : ∀ (k : Nat) (y : Int), 0 ≤ y → y + k ≤ n → mayL n (runL k y ++ r) y = mayL n r (y + k)
  | 0, y, _, _ => by simp [runL]
  | k + 1, y, hy, hk => by
    show mayL n (y :: (runL k (y + 1) ++ r)) y = _
    rw [mayL, if_neg (by omega), mayL_run n r k (y + 1) (by omega) (by omega)]
    have e : y + 1 + (k : Int) = y + ((k + 1 : Nat) : Int) := by omega
    rw [e]
    simp
    omega
theorem mayL_rep (n : Int) (r : List Int) : ∀ (k : Nat) (y : Int), mayL n (List.replicate k (-1) ++ r) y = mayL n r y
  | 0, y => by simp
  | k + 1, y => by rw [List.replicate_succ, List.cons_append, mayL, if_pos rfl, mayL_rep n r k y]
theorem fill_may (m n : Int) : ∀ (cs : List Ch) (f : Bool) (x y : Int), 0 ≤ y → (∀ d ∈ cs, fits m n d = true) → okL m n cs f x y = true → mayL n (fillL m cs x y) y = true ∧ ((x ≤ m ∧ (fillL m cs x y).length = (m - x).toNat))
  | [], f, x, y, hy, _, h => by
    obtain ⟨h1, h2⟩ := okL_nil h
    unfold fillL
    have := mayL_run n [] (m - x).toNat y hy (by omega)
    rw [List.append_nil] at this
    rw [this]
    exact ⟨rfl, by omega, runL_len _ _⟩
  | c :: cs, f, x, y, hy, hf, h => by
    obtain ⟨h1, h2, h3, h4⟩ := okL_cons h
    have hc := fits_parts (hf c (List.mem_cons_self ..))
    obtain ⟨i1, i2, i3⟩ := fill_may m n cs false c.1.2 c.2.2 (by omega) (fun q hq => hf q (List.mem_cons_of_mem _ hq)) h4
    unfold fillL
    rw [mayL_run _ _ _ _ hy (by omega), mayL_rep]
    refine ⟨mayL_low i1 (by omega), by omega, ?_⟩
    simp only [List.length_append, runL_len, List.length_replicate, i3]
    omega

/-- What was found to be changes of a match is that, and the match is the one that was filled in. -/
theorem are_fill {l : List Ch} {m n : Int} (h0 : 0 ≤ m) (hn : 0 ≤ n) (h : areB l m n = true) : chs (guess l m n) n = l ∧ guess l m n = fillL m l 0 0 := by
  unfold areB at h
  simp only [Bool.and_eq_true, List.all_eq_true] at h
  obtain ⟨h1, h2⟩ := h
  rw [okG_okL m n l.length l 0 0 0 (by omega)] at h2
  have h3 := chs_fill h0 hn h1 h2
  obtain ⟨h4, -, h5⟩ := fill_may m n l _ 0 0 (Int.le_refl _) h1 h2
  have h6 : may (fillL m l 0 0) n = true := by unfold may; simp [hn, h4]
  have h7 := guess_chs h6
  rw [h3, h5, show ((m - 0).toNat : Int) = m by omega] at h7
  exact ⟨by rw [h7, h3], h7⟩

theorem chL_some (n : Int) : ∀ (l : List Int) (i x y : Int), x ≤ i → ∀ c ∈ chL n l i x y, c.1.1 < c.1.2 ∨ c.2.1 < c.2.2
  | [], i, x, y, _, c, hc => by
    unfold chL at hc
    split at hc
    · simp at hc; subst hc; assumption
    · simp at hc
  | v :: l, i, x, y, hx, c, hc => by
    unfold chL at hc
    split at hc
    · exact chL_some n l (i + 1) x y (by omega) c hc
    · rw [List.mem_append] at hc
      rcases hc with hc | hc
      · split at hc
        · simp at hc; subst hc; assumption
        · simp at hc
      · exact chL_some n l (i + 1) (i + 1) (v + 1) (Int.le_refl _) c hc

theorem ok_chL (m n : Int) : ∀ (l : List Int) (i x y X Y : Int) (f : Bool), mayL n l y = true → 0 ≤ y → y ≤ n → x ≤ i → x - X = y - Y → 0 ≤ x - X → (f = true ∨ X < x) → m = i + l.length → okL m n (chL n l i x y) f X Y = true
  | [], i, x, y, X, Y, f, hm, h0, hn, hx, h1, h2, h3, h4 => by
    simp at h4
    unfold chL
    split
    · simp [okL]
      refine ⟨⟨⟨h1, by omega⟩, h3⟩, by omega⟩
    · simp [okL]
      omega
  | v :: l, i, x, y, X, Y, f, hm, h0, hn, hx, h1, h2, h3, h4 => by
    unfold chL
    unfold mayL at hm
    simp at h4
    split
    · rename_i hv
      rw [if_pos hv] at hm
      exact ok_chL m n l (i + 1) x y X Y f hm h0 hn (by omega) h1 h2 h3 (by omega)
    · rename_i hv
      rw [if_neg hv] at hm
      simp only [Bool.and_eq_true, decide_eq_true_eq] at hm
      obtain ⟨⟨h5, h6⟩, h7⟩ := hm
      split
      · rename_i hp
        rw [List.singleton_append]
        simp only [okL, Bool.and_eq_true, decide_eq_true_eq, Bool.or_eq_true]
        exact ⟨⟨⟨h1, h2⟩, h3.imp id (fun h => h)⟩, ok_chL m n l (i + 1) (i + 1) (v + 1) i v false h7 (by omega) (by omega) (Int.le_refl _) (by omega) (by omega) (.inr (by omega)) (by omega)⟩
      · rename_i hp
        rw [List.nil_append]
        exact ok_chL m n l (i + 1) (i + 1) (v + 1) X Y f h7 (by omega) (by omega) (Int.le_refl _) (by omega) (by omega) (h3.imp id (fun h => by omega)) (by omega)

theorem are_chs {g : List Int} {n : Int} (h : may g n = true) : areB (chs g n) g.length n = true := by
  obtain ⟨h0, hm⟩ := may_parts h
  unfold areB
  simp only [Bool.and_eq_true, List.all_eq_true]
  refine ⟨fun c hc => ?_, ?_⟩
  · have h1 := chL_lies n g 0 0 0 (Int.le_refl _) (Int.le_refl _) h0 hm c hc
    have h2 := chL_some n g 0 0 0 (Int.le_refl _) c hc
    simp [fits, emp]
    omega
  · rw [okG_okL _ _ _ _ _ _ 0 (by omega)]
    exact ok_chL _ n g 0 0 0 0 0 _ hm (Int.le_refl _) h0 (Int.le_refl _) rfl (Int.le_refl _) (.inl rfl) (by omega)

/-- Changes are those of a match just if they are found to be so. -/
theorem are_iff {l : List Ch} {m n : Int} (h0 : 0 ≤ m) (hn : 0 ≤ n) : areB l m n = true ↔ chs (guess l m n) n = l := by
  refine ⟨fun h => (are_fill h0 hn h).1, fun h => ?_⟩
  have h1 := are_chs (guess_may l m n hn)
  rw [h, guess_len, show (m.toNat : Int) = m by omega] at h1
  exact h1

/-! ### How the match is written -/
/-- The places of a part that is kept, paired place by place. -/
def writeG (r : List Int) (g : Ch) : List Int := (runL (lenO g).toNat g.2.1).zipIdx.foldl (fun r p => r.set (g.1.1.toNat + p.2) p.1) r
/-- The first k of them. -/
def writeK (r : List Int) (g : Ch) : Nat → List Int
  | 0 => r
  | k + 1 => (writeK r g k).set (g.1.1 + k).toNat (g.2.1 + k)
theorem writeK_len (r : List Int) (g : Ch) : ∀ k, (writeK r g k).length = r.length
  | 0 => rfl
  | k + 1 => by simp [writeK, writeK_len r g k]
theorem writeK_run (g : Ch) (a b : List Int) (x : Nat) (hx : g.1.1 = x) (ha : a.length = x) : ∀ k : Nat, k ≤ b.length → writeK (a ++ b) g k = a ++ (runL k g.2.1 ++ b.drop k)
  | 0, _ => by simp [writeK, runL]
  | k + 1, hk => by
    rw [writeK, writeK_run g a b x hx ha k (by omega), hx, show ((x : Int) + (k : Int)).toNat = a.length + k by omega, List.set_append_right _ _ (by omega), show a.length + k - a.length = k by omega, runL_snoc,
      List.set_append_right _ _ (by rw [runL_len]; exact Nat.le_refl _), runL_len, Nat.sub_self, List.drop_eq_getElem_cons (by omega : k < b.length), List.set_cons_zero]
    simp
/-- All that is kept, written. -/
def wr (r : List Int) (gs : List Ch) : List Int := gs.foldl (fun r g => writeK r g (lenO g).toNat) r
theorem wr_snoc (r : List Int) (gs : List Ch) (g : Ch) : wr r (gs ++ [g]) = writeK (wr r gs) g (lenO g).toNat := by simp [wr]
theorem wr_len (r : List Int) : ∀ gs : List Ch, (wr r gs).length = r.length := by
  intro gs
  induction gs generalizing r with
  | nil => rfl
  | cons g gs ih => show (wr (writeK r g (lenO g).toNat) gs).length = _; rw [ih, writeK_len]
theorem wr_fill (m n : Int) : ∀ (cs : List Ch) (f : Bool) (x : Nat) (y : Int) (a : List Int), a.length = x → (∀ d ∈ cs, fits m n d = true) → okL m n cs f x y = true → (x : Int) ≤ m →
    wr (a ++ List.replicate (m - x).toNat (-1)) (gapL m n cs x y) = a ++ fillL m cs x y
  | [], f, x, y, a, ha, _, h, hxm => by
    obtain ⟨h1, h2⟩ := okL_nil h
    show writeK _ ((↑x, m), (y, n)) (m - x).toNat = _
    rw [writeK_run ((↑x, m), (y, n)) a _ x rfl ha _ (by simp)]
    simp [fillL]
  | c :: cs, f, x, y, a, ha, hf, h, hxm => by
    obtain ⟨h1, h2, h3, h4⟩ := okL_cons h
    have hc := fits_parts (hf c (List.mem_cons_self ..))
    obtain ⟨z, hz⟩ : ∃ z : Nat, c.1.2 = z := ⟨c.1.2.toNat, by omega⟩
    show wr (writeK _ ((↑x, c.1.1), (y, c.2.1)) (c.1.1 - x).toNat) (gapL m n cs c.1.2 c.2.2) = _
    rw [writeK_run ((↑x, c.1.1), (y, c.2.1)) a _ x rfl ha _ (by simp; omega)]
    have e : a ++ (runL (c.1.1 - x).toNat y ++ List.drop (c.1.1 - x).toNat (List.replicate (m - x).toNat (-1))) = (a ++ (runL (c.1.1 - x).toNat y ++ List.replicate (c.1.2 - c.1.1).toNat (-1))) ++ List.replicate (m - z).toNat (-1) := by
      rw [List.drop_replicate, List.append_assoc, List.append_assoc, List.replicate_append_replicate]
      congr 3
      omega
    show wr (a ++ (runL (c.1.1 - x).toNat y ++ List.drop (c.1.1 - x).toNat (List.replicate (m - x).toNat (-1)))) (gapL m n cs c.1.2 c.2.2) = _
    rw [e, hz, wr_fill m n cs false z c.2.2 _ (by simp [runL_len, ha]; omega) (fun q hq => hf q (List.mem_cons_of_mem _ hq)) (by rw [← hz]; exact h4) (by omega)]
    simp [fillL, hz]

theorem wr_all {l : List Ch} {m n : Int} (h0 : 0 ≤ m) (hn : 0 ≤ n) (h : areB l m n = true) : wr (List.replicate m.toNat (-1)) (gapL m n l 0 0) = guess l m n := by
  rw [(are_fill h0 hn h).2]
  unfold areB at h
  simp only [Bool.and_eq_true, List.all_eq_true] at h
  obtain ⟨h1, h2⟩ := h
  rw [okG_okL m n l.length l 0 0 0 (by omega)] at h2
  have := wr_fill m n l _ 0 0 [] rfl h1 h2 h0
  simpa using this

/-- What is kept lies within. -/
theorem gap_fits {m n : Int} {e : Nat} : ∀ (cs : List Ch) (x y : Int) (k : Nat), 0 ≤ x → 0 ≤ y → x ≤ m → y ≤ n → (∀ d ∈ cs, fits m n d = true) → okG e (gapL m n cs x y) k = true → ∀ g ∈ gapL m n cs x y, 0 ≤ g.1.1 ∧ g.1.1 ≤ g.1.2 ∧ g.1.2 ≤ m ∧ 0 ≤ g.2.1 ∧ g.2.1 ≤ g.2.2 ∧ g.2.2 ≤ n
  | [], x, y, k, hx, hy, hm, hn, _, h, g, hg => by
    simp only [gapL, List.mem_singleton] at hg
    subst hg
    simp only [gapL, okG, Bool.and_true, bad_iff] at h
    dsimp only
    omega
  | c :: cs, x, y, k, hx, hy, hm, hn, hf, h, g, hg => by
    have hc := fits_parts (hf c (List.mem_cons_self ..))
    simp only [gapL, okG, Bool.and_eq_true] at h
    simp only [gapL, List.mem_cons] at hg
    rcases hg with rfl | hg
    · have := bad_iff.1 h.1
      dsimp only
      omega
    · exact gap_fits cs c.1.2 c.2.2 (k + 1) (by omega) (by omega) (by omega) (by omega) (fun q hq => hf q (List.mem_cons_of_mem _ hq)) h.2 g hg
end Go.Proofs.Ytijinhhlikhjfaa
