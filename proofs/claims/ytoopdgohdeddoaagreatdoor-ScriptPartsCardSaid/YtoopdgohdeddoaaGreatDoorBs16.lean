/- Proved here: texts joined: CkOut, EditPure. -/
import Derived.Test.YtoopdgohdeddoaaGreatDoorBs15
import Derived.WalkKit
/- Proved here, without conditions on the program: chunks of the call's own. -/
namespace Go.Proofs.YtoopdgohdeddoaaGreatDoor
open Go.RowKit
set_option linter.unusedVariables false

theorem infoCk : (Tryz.prog.info? 51).map (fun i => (i.zero, i.size, i.bytes)) = some (some (.agg #[.bool false, .int .i64 0, .int .i64 0, .slice none 0 0]), 4, 48) := by kernel_rfl
/-- A chunk's sides, as a slice. -/
abbrev CkV := Option Addr × Nat × Nat
def ckR (w : World) (B : Nat) (r : CkV) (c : Ck) : Prop := r.2.1 ≤ r.2.2 ∧ r.2.2 ≤ maxLen ∧ Spans w B r.1 r.2.1 c.2.2
def cqC (q : CkV × Ck) : List Value := [.bool q.2.1, .int .i64 q.2.2.1.1, .int .i64 q.2.2.1.2, .slice q.1.1 q.1.2.1 q.1.2.2]
def cqCs (qs : List (CkV × Ck)) : List Value := qs.flatMap cqC
def cksOf (qs : List (CkV × Ck)) : List Ck := qs.map fun q => q.2
theorem ckR.keep {w w' : World} {B : Nat} {r : CkV} {c : Ck} (h : ckR w B r c) (hk : ∀ p : Addr, p.block < B → w'.cell? p = w.cell? p) : ckR w' B r c := ⟨h.1, h.2.1, h.2.2.keep hk⟩
theorem ckR.more {w : World} {B B' : Nat} {r : CkV} {c : Ck} (h : ckR w B r c) (hB : B ≤ B') : ckR w B' r c := ⟨h.1, h.2.1, h.2.2.more hB⟩
theorem cqCs_len : ∀ qs : List (CkV × Ck), (cqCs qs).length = qs.length * 4
  | [] => rfl
  | q :: qs => by
    show (cqC q ++ cqCs qs).length = _
    rw [List.length_append, cqCs_len qs, List.length_cons]
    show 4 + qs.length * 4 = _
    omega
theorem cqCs_at : ∀ (qs : List (CkV × Ck)) (j r : Nat) (q : CkV × Ck), qs[j]? = some q → r < 4 → (cqCs qs)[j * 4 + r]? = (cqC q)[r]?
  | [], _, _, _, h, _ => by simp at h
  | d :: qs, 0, r, q, h, hr => by
    simp at h
    subst h
    show (cqC d ++ cqCs qs)[0 * 4 + r]? = _
    rw [Nat.zero_mul, Nat.zero_add, List.getElem?_append_left (by show r < 4; exact hr)]
  | d :: qs, j + 1, r, q, h, hr => by
    show (cqC d ++ cqCs qs)[(j + 1) * 4 + r]? = _
    rw [List.getElem?_append_right (by show 4 ≤ _; omega), show (j + 1) * 4 + r - (cqC d).length = j * 4 + r by show (j + 1) * 4 + r - 4 = _; omega]
    exact cqCs_at qs j r q (by simpa using h) hr
theorem cqCs_snoc (qs : List (CkV × Ck)) (q : CkV × Ck) : cqCs (qs ++ [q]) = cqCs qs ++ cqC q := by simp [cqCs]
theorem cqC_one (q : CkV × Ck) : ∀ u ∈ cqC q, u.oneCell' = true := by
  intro u hu
  simp [cqC] at hu
  rcases hu with rfl | rfl | rfl | rfl <;> rfl
def ckObj (q : CkV × Ck) : Obj := .cells #[.bool q.2.1, .int .i64 q.2.2.1.1, .int .i64 q.2.2.1.2, .slice q.1.1 q.1.2.1 q.1.2.2] 51
theorem cell_new_cq (w : World) (q : CkV × Ck) : ∀ j u, (cqC q)[j]? = some u → (w.alloc (ckObj q)).cell? ((⟨w.heap.size, 0, none⟩ : Addr).add j) = some u := by
  intro j u hu
  unfold ckObj
  rw [addr_add, World.cell?_alloc_mark]
  simpa [cqC] using hu

/-- Chunks of the call's own, above block B; their sides stand, whatever becomes of the chunks' own block, and of what lies below B. -/
structure CksO (B : Nat) (wr : World) (v : Value) (qs : List (CkV × Ck)) : Prop where
  own : wr.ownsRow B 51 4 v qs.length (cqCs qs)
  row : ∀ w2, But (fun k => v.ownBlock = some k ∨ k < B) wr w2 → ∀ q ∈ qs, ckR w2 w2.heap.size q.1 q.2
  size : B ≤ wr.heap.size
section
variable {B : Nat} {wr w1 w2 : World} {v v' : Value} {qs : List (CkV × Ck)}
theorem CksO.start {B : Nat} {w : World} (h : B ≤ w.heap.size) : CksO B w (.slice none 0 0) [] := ⟨World.ownsRow_nil _ _ _ _, fun w2 h q hq => by simp at hq, h⟩
theorem CksO.up (h : CksO B wr v qs) (hb : Below wr.heap.size wr w1) : CksO B w1 v qs :=
  ⟨ownsRow_kept h.own fun k e => hb.block k (h.own.lt k e).2, fun w2 h2 => h.row w2 ((But.of_below hb fun k hk _ => hk).trans h2 fun k e => .inl e), Nat.le_trans h.size hb.size⟩
theorem CksO.touch (h : CksO B wr v qs) (hb : But (fun k => k < B) wr w1) : CksO B w1 v qs :=
  ⟨ownsRow_kept h.own fun k e => hb.block k (h.own.lt k e).2 (by have := (h.own.lt k e).1; omega), fun w2 h2 => h.row w2 ((hb.more fun k e => .inr e).trans h2 fun k e => .inl e), Nat.le_trans h.size hb.size⟩
theorem CksO.put {q : CkV × Ck} {o : Obj} (h : CksO B wr v qs) (hr : ∀ w2, But (fun k => v.ownBlock = some k ∨ k < B) wr w2 → ckR w2 w2.heap.size q.1 q.2)
    (hown : w2.ownsRow B 51 4 v' (qs.length + 1) (cqCs qs ++ cqC q)) (hg : (wr.alloc o).grownBy w2 v.ownBlock) (hloc : v'.ownBlock = v.ownBlock ∨ v'.ownBlock = some (wr.alloc o).heap.size) : CksO B w2 v' (qs ++ [q]) := by
  have hb2 : But (fun k => v.ownBlock = some k ∨ k < B) wr w2 := ((But.alloc wr o).trans (But.of_grown hg fun k e => e) fun k e => .inl e).more fun k e => .inl e
  refine ⟨by rw [List.length_append, cqCs_snoc]; exact hown, fun w3 h3 p hp => ?_, Nat.le_trans h.size hb2.size⟩
  have hb3 : But (fun k => v.ownBlock = some k ∨ k < B) wr w3 := hb2.trans h3 fun k e => by
    rcases e with e | e
    · rcases hloc with hl | hl
      · exact .inl (.inl (hl.symm.trans e))
      · rw [hl] at e
        injection e with e
        exact .inr (by rw [← e]; simp)
    · exact .inl (.inr e)
  rcases List.mem_append.1 hp with hp | hp
  · exact h.row w3 hb3 p hp
  · rw [List.mem_singleton.1 hp]
    exact hr w3 hb3
/-- Without the last one. -/
theorem CksO.pop {g cap n : Nat} {q : CkV × Ck} (h : CksO B wr (.slice (some ⟨g, 0, none⟩) (n + 1) cap) (qs ++ [q])) (hn : qs.length = n) : CksO B wr (.slice (some ⟨g, 0, none⟩) n cap) qs := by
  have h1 := h.own
  rw [List.length_append, List.length_singleton, hn, cqCs_snoc] at h1
  refine ⟨by rw [hn]; exact ownsRow_pop (by rw [cqCs_len, hn]) h1, fun w2 h2 p hp => h.row w2 h2 p (List.mem_append_left _ hp), h.size⟩
theorem CksO.reads (h : CksO B wr v qs) : ∃ A c, v = .slice A qs.length c ∧ qs.length ≤ c ∧ c ≤ maxLen ∧ Cks wr wr.heap.size A qs.length (cksOf qs) := by
  have hr := h.own
  have hrow := h.row wr (But.refl _ _)
  have hread : ∀ (g c : Nat), v = .slice (some ⟨g, 0, none⟩) qs.length c → Cks wr wr.heap.size (some ⟨g, 0, none⟩) qs.length (cksOf qs) := by
    rintro g c rfl
    refine ⟨by simp [cksOf], fun hn => ⟨g, 0, rfl, (hr.lt g rfl).2, fun j c hj => ?_⟩⟩
    unfold cksOf at hj
    rw [List.getElem?_map] at hj
    cases hq : qs[j]? with
    | none => rw [hq] at hj; cases hj
    | some q =>
      rw [hq] at hj
      simp at hj
      subst hj
      have hc := hr.cells (g := g) rfl
      have kk : ∀ r, r < 4 → ∀ u, (cqC q)[r]? = some u → wr.cell? ⟨g, 0 + j * 4 + r, none⟩ = some u := fun r hr2 u hu => by
        rw [Nat.zero_add, ← addr_add]
        exact hc _ u ((cqCs_at qs j r _ hq hr2).trans hu)
      have k0 := kk 0 (by omega) (.bool q.2.1) rfl
      have k1 := kk 1 (by omega) (.int .i64 q.2.2.1.1) rfl
      have k2 := kk 2 (by omega) (.int .i64 q.2.2.1.2) rfl
      have k3 := kk 3 (by omega) (.slice q.1.1 q.1.2.1 q.1.2.2) rfl
      obtain ⟨e1, e2, e3⟩ := hrow q (List.mem_of_getElem? hq)
      exact ⟨k0, k1, k2, q.1.1, q.1.2.1, q.1.2.2, k3, e1, e2, e3⟩
  rcases hr.2 with ⟨rfl, h0⟩ | ⟨g, cap, cur, rfl, _, _, hnc, hcm, _⟩
  · have : qs = [] := List.eq_nil_of_length_eq_zero h0
    subst this
    exact ⟨none, 0, rfl, Nat.le_refl _, Nat.zero_le _, Cks.nil _ _ _⟩
  · exact ⟨_, cap, rfl, hnc, hcm, hread g cap rfl⟩
end
/-- Chunks that a call tells, and no error. -/
def CksOut (w w' : World) (e : Ending) (cs : List Ck) : Prop := ∃ A n c, e = .returned (.tuple #[.slice A n c, .int .i64 0]) ∧ n ≤ c ∧ c ≤ maxLen ∧ Cks w' w'.heap.size A n cs ∧ Below w.heap.size w w'
/-- A chunk that was told stands, but for blocks that lay ahead. -/
theorem ChunkOut.stay {F : Nat → Prop} {w w' w2 : World} {A : Option Addr} {n cap : Nat} {c : Ck} (h1 : n ≤ cap) (h2 : cap ≤ maxLen) (h3 : Spans w' w'.heap.size A n c.2.2) (h4 : 0 < n → ∀ g o, A = some ⟨g, o, none⟩ → w.heap.size ≤ g) (hb : But F w' w2) (hF : ∀ k, F k → k < w.heap.size) : ckR w2 w2.heap.size (A, n, cap) c := by
  refine ⟨h1, h2, h3.1, fun hn => ?_⟩
  obtain ⟨b, o, e, hlt, hc⟩ := h3.2 hn
  have hge := h4 hn b o e
  have key : ∀ q : Addr, q.block = b → w2.cell? q = w'.cell? q := fun q hq => World.cell?_of_block (by rw [hq]; exact hb.block b hlt (fun hf => by have := hF b hf; omega))
  exact ⟨b, o, e, Nat.lt_of_lt_of_le hlt hb.size, fun j s hj => ⟨(key _ rfl).trans (hc j s hj).1, (key _ rfl).trans (hc j s hj).2⟩⟩
end Go.Proofs.YtoopdgohdeddoaaGreatDoor
/- Proved here, without conditions: plain facts on matches and their changes: a match is told there and back, its changes count all places, the other way round they are swapped. -/
namespace Go.Proofs.YtoopdgohdeddoaaGreatDoor
set_option linter.unusedVariables false

/-- A change: the old places, from and to; the new ones. -/
abbrev Ch := (Int × Int) × (Int × Int)

/-- Numbers that are a match to n: those that aren't -1 rise, from b on, below n. -/
def mayL (n : Int) : List Int → Int → Bool
  | [], _ => true
  | v :: l, b => if v = -1 then mayL n l b else (decide (b ≤ v) && decide (v < n)) && mayL n l (v + 1)
def may (l : List Int) (n : Int) : Bool := decide (0 ≤ n) && mayL n l 0

/-- The changes from place i on, where the old places from x on and the new ones from y on aren't told yet. -/
def chL (n : Int) : List Int → Int → Int → Int → List Ch
  | [], i, x, y => if x < i ∨ y < n then [((x, i), (y, n))] else []
  | v :: l, i, x, y => if v = -1 then chL n l (i + 1) x y else (if x < i ∨ y < v then [((x, i), (y, v))] else []) ++ chL n l (i + 1) (i + 1) (v + 1)
def chs (l : List Int) (n : Int) : List Ch := chL n l 0 0 0

def inOld (l : List Ch) (i : Int) : Bool := l.any fun c => decide (c.1.1 ≤ i) && decide (i < c.1.2)
def inNew (l : List Ch) (j : Int) : Bool := l.any fun c => decide (c.2.1 ≤ j) && decide (j < c.2.2)
/-- From j on, past what lies in a change. -/
def skipTo (l : List Ch) (n : Int) : Nat → Int → Int
  | 0, j => j
  | f + 1, j => if j < n ∧ inNew l j = true then skipTo l n f (j + 1) else j
def guessL (l : List Ch) (n : Int) : Nat → Int → Int → List Int
  | 0, _, _ => []
  | k + 1, i, j => if inOld l i = true ∨ n ≤ skipTo l n (n - j).toNat j then -1 :: guessL l n k (i + 1) (skipTo l n (n - j).toNat j) else skipTo l n (n - j).toNat j :: guessL l n k (i + 1) (skipTo l n (n - j).toNat j + 1)
/-- The only match of m places to n that may have the changes l. -/
def guess (l : List Ch) (m n : Int) : List Int := guessL l n m.toNat 0 0

theorem guessL_len (l : List Ch) (n : Int) : ∀ (k : Nat) (i j : Int), (guessL l n k i j).length = k
  | 0, _, _ => rfl
  | k + 1, i, j => by unfold guessL; split <;> simp [guessL_len l n k]
theorem guess_len (l : List Ch) (m n : Int) : (guess l m n).length = m.toNat := guessL_len _ _ _ _ _

theorem mayL_from {n : Int} : ∀ {l : List Int} {b b' : Int}, mayL n l b = true → (∀ u ∈ l, u ≠ -1 → b' ≤ u) → mayL n l b' = true
  | [], _, _, _, _ => rfl
  | v :: l, b, b', h, hb => by
    unfold mayL at h ⊢
    split at h
    · rename_i hv
      rw [if_pos hv]
      exact mayL_from h fun u hu => hb u (List.mem_cons_of_mem _ hu)
    · rename_i hv
      rw [if_neg hv]
      simp only [Bool.and_eq_true, decide_eq_true_eq] at h ⊢
      exact ⟨⟨hb v (List.mem_cons_self ..) hv, h.1.2⟩, h.2⟩
theorem mayL_low {n : Int} : ∀ {l : List Int} {b b' : Int}, mayL n l b = true → b' ≤ b → mayL n l b' = true
  | [], _, _, _, _ => rfl
  | v :: l, b, b', h, hb => by
    unfold mayL at h ⊢
    split at h
    · rename_i hv
      rw [if_pos hv]
      exact mayL_low h hb
    · rename_i hv
      rw [if_neg hv]
      simp only [Bool.and_eq_true, decide_eq_true_eq] at h ⊢
      exact ⟨⟨by omega, h.1.2⟩, h.2⟩
theorem mayL_mem {n : Int} : ∀ {l : List Int} {b : Int}, mayL n l b = true → ∀ u ∈ l, u ≠ -1 → b ≤ u ∧ u < n
  | [], _, _, u, hu, _ => by cases hu
  | v :: l, b, h, u, hu, hne => by
    unfold mayL at h
    split at h
    · rename_i hv
      rcases List.mem_cons.1 hu with rfl | hu
      · exact absurd hv hne
      · exact mayL_mem h u hu hne
    · simp only [Bool.and_eq_true, decide_eq_true_eq] at h
      rcases List.mem_cons.1 hu with rfl | hu
      · exact h.1
      · have := mayL_mem h.2 u hu hne
        omega
theorem may_parts {l : List Int} {n : Int} (h : may l n = true) : 0 ≤ n ∧ mayL n l 0 = true := by
  unfold may at h
  simpa using h

theorem inOld_append (l k : List Ch) (t : Int) : inOld (l ++ k) t = (inOld l t || inOld k t) := by unfold inOld; rw [List.any_append]
theorem inNew_append (l k : List Ch) (t : Int) : inNew (l ++ k) t = (inNew l t || inNew k t) := by unfold inNew; rw [List.any_append]
theorem inOld_one (a b c d x y t : Int) : (inOld (if a < b ∨ c < d then [((x, y), (c, d))] else []) t = true) ↔ (a < b ∨ c < d) ∧ x ≤ t ∧ t < y := by
  split <;> simp_all [inOld] <;> omega
theorem inNew_one (a b c d x y t : Int) : (inNew (if a < b ∨ c < d then [((x, y), (c, d))] else []) t = true) ↔ (a < b ∨ c < d) ∧ c ≤ t ∧ t < d := by
  split <;> simp_all [inNew] <;> omega

theorem inOld_chL (n t : Int) : ∀ (l : List Int) (i x y : Int), x ≤ i → (inOld (chL n l i x y) t = true ↔ (x ≤ t ∧ t < i) ∨ (i ≤ t ∧ l[(t - i).toNat]? = some (-1)))
  | [], i, x, y, h => by
    unfold chL
    rw [inOld_one]
    simp
    omega
  | v :: l, i, x, y, h => by
    have key : ∀ t, i ≤ t → ((v :: l)[(t - i).toNat]? = if t = i then some v else l[(t - (i + 1)).toNat]?) := by
      intro t ht
      by_cases e : t = i
      · subst e; simp
      · rw [if_neg e, show (t - i).toNat = (t - (i + 1)).toNat + 1 by omega]; simp
    unfold chL
    split
    · rename_i hv
      rw [inOld_chL n t l (i + 1) x y (by omega)]
      by_cases ht : i ≤ t
      · rw [key t ht]
        by_cases e : t = i
        · rw [if_pos e, hv]; simp; omega
        · rw [if_neg e]
          constructor
          · rintro (h1 | h1)
            · omega
            · exact .inr ⟨ht, h1.2⟩
          · rintro (h1 | h1)
            · omega
            · exact .inr ⟨by omega, h1.2⟩
      · constructor
        · rintro (h1 | h1)
          · exact .inl (by omega)
          · omega
        · rintro (h1 | h1)
          · exact .inl (by omega)
          · omega
    · rename_i hv
      rw [inOld_append, Bool.or_eq_true, inOld_one, inOld_chL n t l (i + 1) (i + 1) (v + 1) (Int.le_refl _)]
      by_cases ht : i ≤ t
      · rw [key t ht]
        by_cases e : t = i
        · rw [if_pos e]
          constructor
          · rintro (h1 | h1 | h1)
            · omega
            · omega
            · omega
          · rintro (h1 | h1)
            · omega
            · exact absurd (by simpa using h1.2) hv
        · rw [if_neg e]
          constructor
          · rintro (h1 | h1 | h1)
            · omega
            · omega
            · exact .inr ⟨ht, h1.2⟩
          · rintro (h1 | h1)
            · omega
            · exact .inr (.inr ⟨by omega, h1.2⟩)
      · constructor
        · rintro (h1 | h1 | h1)
          · exact .inl (by omega)
          · omega
          · omega
        · rintro (h1 | h1)
          · exact .inl ⟨.inl (by omega), by omega⟩
          · omega

theorem inNew_chL (n t : Int) : ∀ (l : List Int) (i x y : Int), 0 ≤ y → x ≤ i → mayL n l y = true → (inNew (chL n l i x y) t = true ↔ y ≤ t ∧ t < n ∧ t ∉ l)
  | [], i, x, y, hy, hx, h => by
    unfold chL
    rw [inNew_one]
    simp
    omega
  | v :: l, i, x, y, hy, hx, h => by
    have hm := mayL_mem h
    unfold mayL at h
    unfold chL
    split at h
    · rename_i hv
      rw [if_pos hv, inNew_chL n t l (i + 1) x y hy (by omega) h, hv]
      simp
      omega
    · rename_i hv
      simp only [Bool.and_eq_true, decide_eq_true_eq] at h
      have hm2 := mayL_mem h.2
      rw [if_neg hv, inNew_append, Bool.or_eq_true, inNew_one, inNew_chL n t l (i + 1) (i + 1) (v + 1) (by omega) (Int.le_refl _) h.2]
      constructor
      · rintro (h1 | h1)
        · refine ⟨by omega, by omega, fun hmem => ?_⟩
          rcases List.mem_cons.1 hmem with e | hmem
          · omega
          · have := hm2 t hmem (by omega)
            omega
        · exact ⟨by omega, by omega, fun hmem => by
            rcases List.mem_cons.1 hmem with e | hmem
            · omega
            · exact h1.2.2 hmem⟩
      · rintro ⟨h1, h2, h3⟩
        have hne : t ≠ v := fun e => h3 (e ▸ List.mem_cons_self ..)
        by_cases ht : t < v
        · exact .inl ⟨.inr (by omega), h1, ht⟩
        · exact .inr ⟨by omega, h2, fun hmem => h3 (List.mem_cons_of_mem _ hmem)⟩

theorem skipTo_ge (l : List Ch) (n : Int) : ∀ (f : Nat) (j : Int), j ≤ skipTo l n f j
  | 0, j => Int.le_refl _
  | f + 1, j => by
    unfold skipTo
    split
    · have := skipTo_ge l n f (j + 1)
      omega
    · exact Int.le_refl _
theorem skipTo_le {l : List Ch} {n u : Int} (hu : n ≤ u ∨ inNew l u = false) : ∀ (f : Nat) (j : Int), j ≤ u → skipTo l n f j ≤ u
  | 0, j, h => h
  | f + 1, j, h => by
    unfold skipTo
    split
    · rename_i hc
      refine skipTo_le hu f (j + 1) ?_
      rcases Int.lt_or_eq_of_le h with h1 | h1
      · omega
      · subst h1
        rcases hu with h2 | h2
        · omega
        · rw [h2] at hc; exact absurd hc.2 (by simp)
    · exact h
theorem skipTo_up {l : List Ch} {n u : Int} : ∀ (f : Nat) (j : Int), (∀ t, j ≤ t → t < u → t < n ∧ inNew l t = true) → u - j ≤ f → u ≤ skipTo l n f j ∨ u < j
  | 0, j, _, hf => by
    unfold skipTo
    omega
  | f + 1, j, h, hf => by
    unfold skipTo
    by_cases hju : j < u
    · rw [if_pos (h j (Int.le_refl _) hju)]
      have := skipTo_up f (j + 1) (fun t h1 h2 => h t (by omega) h2) (by omega)
      omega
    · have : j ≤ (if j < n ∧ inNew l j = true then skipTo l n f (j + 1) else j) := by
        split
        · have := skipTo_ge l n f (j + 1); omega
        · exact Int.le_refl _
      omega

theorem guessL_may (l : List Ch) (n : Int) : ∀ (k : Nat) (i j : Int), 0 ≤ j → mayL n (guessL l n k i j) j = true
  | 0, _, _, _ => rfl
  | k + 1, i, j, hj => by
    have hge := skipTo_ge l n (n - j).toNat j
    unfold guessL
    obtain ⟨s, hs⟩ : ∃ s, s = skipTo l n (n - j).toNat j := ⟨_, rfl⟩
    rw [← hs] at hge ⊢
    split
    · unfold mayL
      rw [if_pos rfl]
      exact mayL_low (guessL_may l n k (i + 1) s (by omega)) hge
    · rename_i h
      unfold mayL
      rw [if_neg (by omega)]
      simp only [Bool.and_eq_true, decide_eq_true_eq]
      exact ⟨⟨hge, by omega⟩, guessL_may l n k (i + 1) (s + 1) (by omega)⟩
theorem guess_may (l : List Ch) (m n : Int) (h : 0 ≤ n) : may (guess l m n) n = true := by
  unfold may
  simp only [Bool.and_eq_true, decide_eq_true_eq]
  exact ⟨h, guessL_may l n _ _ _ (Int.le_refl _)⟩

theorem guessL_back {n : Int} {L : List Ch} {all : List Int} (hold : ∀ i : Nat, i < all.length → (inOld L i = true ↔ all[i]? = some (-1))) (hnew : ∀ t, 0 ≤ t → (inNew L t = true ↔ t < n ∧ t ∉ all)) :
    ∀ (suf pre : List Int) (j : Int), all = pre ++ suf → 0 ≤ j → mayL n suf j = true → (∀ u ∈ pre, u ≠ -1 → u < j) → guessL L n suf.length pre.length j = suf
  | [], _, _, _, _, _, _ => rfl
  | v :: s, pre, j, he, hj, hm, hp => by
    have hmem := mayL_mem hm
    have hi : (pre.length : Nat) < all.length := by rw [he]; simp
    have ho := hold pre.length hi
    rw [he, List.getElem?_append_right (Nat.le_refl _)] at ho
    simp at ho
    have hstop : ∀ u ∈ v :: s, u ≠ -1 → inNew L u = false := by
      intro u hu hne
      have := hmem u hu hne
      have h2 := hnew u (by omega)
      cases hc : inNew L u with
      | false => rfl
      | true => exact absurd ((h2.1 hc).2) (fun h => h (by rw [he]; exact List.mem_append_right _ hu))
    have hge := skipTo_ge L n (n - j).toNat j
    have hle : ∀ u ∈ v :: s, u ≠ -1 → skipTo L n (n - j).toNat j ≤ u := fun u hu hne => skipTo_le (.inr (hstop u hu hne)) _ _ (hmem u hu hne).1
    have hm2 := hm
    unfold mayL at hm2
    have hcast : ((pre.length : Nat) : Int) + 1 = (((pre ++ [v]).length : Nat) : Int) := by simp
    have he2 : all = (pre ++ [v]) ++ s := by rw [he]; simp
    rw [List.length_cons]
    unfold guessL
    by_cases hv : v = -1
    · rw [if_pos (.inl (ho.2 hv)), hcast]
      rw [if_pos hv] at hm2
      rw [guessL_back hold hnew s (pre ++ [v]) _ he2 (by omega) (mayL_from hm2 fun u hu hne => hle u (List.mem_cons_of_mem _ hu) hne) ?_, hv]
      intro u hu hne
      rcases List.mem_append.1 hu with hu | hu
      · have := hp u hu hne; omega
      · simp at hu; omega
    · rw [if_neg hv] at hm2
      simp only [Bool.and_eq_true, decide_eq_true_eq] at hm2
      have hs : skipTo L n (n - j).toNat j = v := by
        have h1 := hle v (List.mem_cons_self ..) hv
        have h2 := skipTo_up (l := L) (n := n) (u := v) (n - j).toNat j (fun t ht1 ht2 => by
          refine ⟨by omega, (hnew t (by omega)).2 ⟨by omega, fun hmm => ?_⟩⟩
          rw [he] at hmm
          rcases List.mem_append.1 hmm with hmm | hmm
          · have := hp t hmm (by omega); omega
          · rcases List.mem_cons.1 hmm with e | hmm
            · omega
            · have := mayL_mem hm2.2 t hmm (by omega); omega) (by omega)
        omega
      rw [hs, if_neg (by
        rintro (h1 | h1)
        · exact hv (ho.1 h1)
        · omega), hcast]
      rw [guessL_back hold hnew s (pre ++ [v]) _ he2 (by omega) hm2.2 ?_]
      intro u hu hne
      rcases List.mem_append.1 hu with hu | hu
      · have := hp u hu hne; omega
      · simp at hu; omega

/-- A match is told there and back. -/
theorem guess_chs {l : List Int} {n : Int} (h : may l n = true) : guess (chs l n) l.length n = l := by
  obtain ⟨h0, hm⟩ := may_parts h
  unfold guess chs
  have := guessL_back (n := n) (L := chL n l 0 0 0) (all := l) (fun i hi => by
      rw [inOld_chL n i l 0 0 0 (Int.le_refl _)]
      simp
      omega)
    (fun t ht => by
      rw [inNew_chL n t l 0 0 0 (Int.le_refl _) (Int.le_refl _) hm]
      simp
      omega) l [] 0 rfl (Int.le_refl _) hm (fun u hu => by cases hu)
  simpa using this
theorem chs_inj {l k : List Int} {n : Int} (hl : may l n = true) (hk : may k n = true) (hlen : l.length = k.length) (h : chs l n = chs k n) : l = k := by
  rw [← guess_chs hl, ← guess_chs hk, h, hlen]

theorem chL_len (n : Int) : ∀ (l : List Int) (i x y : Int), (chL n l i x y).length ≤ l.length + 1
  | [], i, x, y => by unfold chL; split <;> simp
  | v :: l, i, x, y => by
    unfold chL
    split
    · have := chL_len n l (i + 1) x y
      simp only [List.length_cons]
      omega
    · have := chL_len n l (i + 1) (i + 1) (v + 1)
      rw [List.length_append]
      simp only [List.length_cons]
      have h1 : (if x < i ∨ y < v then [((x, i), (y, v))] else [] : List Ch).length ≤ 1 := by split <;> simp
      omega
theorem chs_len (l : List Int) (n : Int) : (chs l n).length ≤ l.length + 1 := chL_len _ _ _ _ _

/-- A change the other way. -/
def swapC (c : Ch) : Ch := (c.2, c.1)
theorem swap_swap (l : List Ch) : (l.map swapC).map swapC = l := by
  rw [List.map_map]
  have : (swapC ∘ swapC) = id := by funext c; rfl
  rw [this, List.map_id]

/-- What is paired, as places, from place i on. -/
def prL : List Int → Int → List (Int × Int)
  | [], _ => []
  | v :: l, i => if v = -1 then prL l (i + 1) else (i, v) :: prL l (i + 1)
/-- The changes of pairs. -/
def chP (m n : Int) : List (Int × Int) → Int → Int → List Ch
  | [], x, y => if x < m ∨ y < n then [((x, m), (y, n))] else []
  | p :: ps, x, y => (if x < p.1 ∨ y < p.2 then [((x, p.1), (y, p.2))] else []) ++ chP m n ps (p.1 + 1) (p.2 + 1)
theorem chL_pairs (n : Int) : ∀ (l : List Int) (i x y : Int), chL n l i x y = chP (i + l.length) n (prL l i) x y
  | [], i, x, y => by simp [chL, prL, chP]
  | v :: l, i, x, y => by
    unfold chL prL
    rw [show i + ((v :: l).length : Int) = (i + 1) + l.length by simp only [List.length_cons]; push_cast; omega]
    split
    · exact chL_pairs n l (i + 1) x y
    · rw [chP, chL_pairs n l (i + 1) (i + 1) (v + 1)]
theorem chP_swap (m n : Int) : ∀ (ps : List (Int × Int)) (x y : Int), (chP m n ps x y).map swapC = chP n m (ps.map Prod.swap) y x
  | [], x, y => by
    simp only [chP, List.map_nil]
    by_cases h : x < m ∨ y < n
    · rw [if_pos h, if_pos h.symm]; rfl
    · rw [if_neg h, if_neg (fun h2 => h h2.symm)]; rfl
  | p :: ps, x, y => by
    rw [chP, List.map_append, chP_swap m n ps, List.map_cons, chP]
    by_cases h : x < p.1 ∨ y < p.2
    · rw [if_pos h, if_pos (show y < p.swap.1 ∨ x < p.swap.2 from h.symm)]; rfl
    · rw [if_neg h, if_neg (show ¬ (y < p.swap.1 ∨ x < p.swap.2) from fun h2 => h h2.symm)]; rfl
theorem prL_mem (l : List Int) : ∀ (i : Int) (p : Int × Int), p ∈ prL l i ↔ i ≤ p.1 ∧ l[(p.1 - i).toNat]? = some p.2 ∧ p.2 ≠ -1 := by
  induction l with
  | nil => intro i p; simp [prL]
  | cons v l ih =>
    intro i p
    have key : i ≤ p.1 → ((v :: l)[(p.1 - i).toNat]? = if p.1 = i then some v else l[(p.1 - (i + 1)).toNat]?) := by
      intro ht
      by_cases e : p.1 = i
      · rw [if_pos e, e]; simp
      · rw [if_neg e, show (p.1 - i).toNat = (p.1 - (i + 1)).toNat + 1 by omega]; simp
    unfold prL
    split
    · rename_i hv
      rw [ih]
      constructor
      · rintro ⟨h1, h2, h3⟩
        exact ⟨by omega, by rw [key (by omega), if_neg (by omega)]; exact h2, h3⟩
      · rintro ⟨h1, h2, h3⟩
        rw [key h1] at h2
        by_cases e : p.1 = i
        · rw [if_pos e] at h2
          injection h2 with h2
          exact absurd (h2 ▸ hv) h3
        · rw [if_neg e] at h2
          exact ⟨by omega, h2, h3⟩
    · rename_i hv
      rw [List.mem_cons, ih]
      constructor
      · rintro (rfl | ⟨h1, h2, h3⟩)
        · exact ⟨Int.le_refl _, by simp, hv⟩
        · exact ⟨by omega, by rw [key (by omega), if_neg (by omega)]; exact h2, h3⟩
      · rintro ⟨h1, h2, h3⟩
        rw [key h1] at h2
        by_cases e : p.1 = i
        · rw [if_pos e] at h2
          injection h2 with h2
          left
          exact Prod.ext e h2.symm
        · rw [if_neg e] at h2
          exact .inr ⟨by omega, h2, h3⟩
/-- Pairs rise in both places. -/
theorem prL_rise (n : Int) : ∀ (l : List Int) (i b : Int), mayL n l b = true → (prL l i).Pairwise (fun p q => p.1 < q.1 ∧ p.2 < q.2)
  | [], _, _, _ => List.Pairwise.nil
  | v :: l, i, b, h => by
    unfold mayL at h
    unfold prL
    split at h
    · rename_i hv
      rw [if_pos hv]
      exact prL_rise n l (i + 1) b h
    · rename_i hv
      simp only [Bool.and_eq_true, decide_eq_true_eq] at h
      rw [if_neg hv]
      refine List.Pairwise.cons (fun q hq => ?_) (prL_rise n l (i + 1) (v + 1) h.2)
      obtain ⟨h1, h2, h3⟩ := (prL_mem l (i + 1) q).1 hq
      have := mayL_mem h.2 q.2 (List.mem_of_getElem? h2) h3
      exact ⟨by show i < q.1; omega, by show v < q.2; omega⟩
theorem rising_eq {f : Int × Int → Int} : ∀ {l k : List (Int × Int)}, l.Pairwise (fun p q => f p < f q) → k.Pairwise (fun p q => f p < f q) → (∀ p, p ∈ l ↔ p ∈ k) → l = k
  | [], [], _, _, _ => rfl
  | [], q :: k, _, _, h => by have := (h q).2 (List.mem_cons_self ..); cases this
  | p :: l, [], _, _, h => by have := (h p).1 (List.mem_cons_self ..); cases this
  | p :: l, q :: k, hl, hk, h => by
    have hl1 := List.pairwise_cons.1 hl
    have hk1 := List.pairwise_cons.1 hk
    have e : p = q := by
      rcases List.mem_cons.1 ((h p).1 (List.mem_cons_self ..)) with e | h1
      · exact e
      · rcases List.mem_cons.1 ((h q).2 (List.mem_cons_self ..)) with e | h2
        · exact e.symm
        · have := hk1.1 p h1
          have := hl1.1 q h2
          omega
    subst e
    rw [rising_eq hl1.2 hk1.2 fun r => ?_]
    constructor
    · intro hr
      rcases List.mem_cons.1 ((h r).1 (List.mem_cons_of_mem _ hr)) with e | h1
      · subst e
        have := hl1.1 r hr
        omega
      · exact h1
    · intro hr
      rcases List.mem_cons.1 ((h r).2 (List.mem_cons_of_mem _ hr)) with e | h1
      · subst e
        have := hk1.1 r hr
        omega
      · exact h1

theorem mayL_pair {n : Int} : ∀ {l : List Int} {b : Int}, mayL n l b = true → l.Pairwise (fun u v => u ≠ -1 → v ≠ -1 → u < v)
  | [], _, _ => List.Pairwise.nil
  | v :: l, b, h => by
    unfold mayL at h
    split at h
    · rename_i hv
      exact List.Pairwise.cons (fun u _ h1 => absurd hv h1) (mayL_pair h)
    · simp only [Bool.and_eq_true, decide_eq_true_eq] at h
      exact List.Pairwise.cons (fun u hu _ h2 => by have := mayL_mem h.2 u hu h2; omega) (mayL_pair h.2)
theorem mayL_of {n : Int} : ∀ {l : List Int} {b : Int}, (∀ u ∈ l, u ≠ -1 → b ≤ u ∧ u < n) → l.Pairwise (fun u v => u ≠ -1 → v ≠ -1 → u < v) → mayL n l b = true
  | [], _, _, _ => rfl
  | v :: l, b, h, hp => by
    have hp1 := List.pairwise_cons.1 hp
    unfold mayL
    by_cases hv : v = -1
    · rw [if_pos hv]
      exact mayL_of (fun u hu => h u (List.mem_cons_of_mem _ hu)) hp1.2
    · rw [if_neg hv]
      have hb := h v (List.mem_cons_self ..) hv
      simp only [Bool.and_eq_true, decide_eq_true_eq]
      exact ⟨hb, mayL_of (fun u hu hne => ⟨by have := hp1.1 u hu hv hne; omega, (h u (List.mem_cons_of_mem _ hu) hne).2⟩) hp1.2⟩

/-- A match the other way: where the new place j is paired, its old place. -/
theorem back_chs {l k : List Int} {n : Int} (hm : may l n = true) (hk : (k.length : Int) = n) (hb : ∀ (i j : Nat), j < k.length → (k[j]? = some (i : Int) ↔ l[i]? = some (j : Int))) (hb2 : ∀ (j : Nat) (v : Int), k[j]? = some v → v = -1 ∨ ∃ i : Nat, v = i) :
    may k l.length = true ∧ chs k l.length = (chs l n).map swapC := by
  obtain ⟨h0, hml⟩ := may_parts hm
  have hmem : ∀ p : Int × Int, p ∈ prL k 0 ↔ p ∈ (prL l 0).map Prod.swap := by
    intro p
    rw [List.mem_map, prL_mem]
    simp only [Int.sub_zero]
    constructor
    · rintro ⟨h1, h2, h3⟩
      rcases hb2 _ _ h2 with e | ⟨i, e⟩
      · exact absurd e h3
      · have hj := (List.getElem?_eq_some_iff.1 h2).1
        rw [e] at h2
        have h4 := (hb i p.1.toNat hj).1 h2
        refine ⟨(p.2, p.1), (prL_mem l 0 _).2 ⟨by rw [e]; exact Int.natCast_nonneg _, ?_, ?_⟩, rfl⟩
        · show l[(p.2 - 0).toNat]? = some p.1
          rw [e, Int.sub_zero, Int.toNat_natCast, h4]
          congr 1
          omega
        · show p.1 ≠ -1
          omega
    · rintro ⟨q, hq, rfl⟩
      obtain ⟨h1, h2, h3⟩ := (prL_mem l 0 q).1 hq
      rw [Int.sub_zero] at h2
      have hv := mayL_mem hml q.2 (List.mem_of_getElem? h2) h3
      have hj : q.2.toNat < k.length := by omega
      refine ⟨hv.1, ?_, by show q.1 ≠ -1; omega⟩
      show k[q.2.toNat]? = some q.1
      have := (hb q.1.toNat q.2.toNat hj).2 (by rw [h2]; congr 1; omega)
      rw [this]
      congr 1
      omega
  have hlp := mayL_pair hml
  rw [List.pairwise_iff_getElem] at hlp
  have hmk : mayL (l.length : Int) k 0 = true := by
    refine mayL_of (fun u hu hne => ?_) ?_
    · obtain ⟨j, hj⟩ := List.mem_iff_getElem?.1 hu
      rcases hb2 j u hj with e | ⟨i, e⟩
      · exact absurd e hne
      · subst e
        have h4 := (hb i j (List.getElem?_eq_some_iff.1 hj).1).1 hj
        have := (List.getElem?_eq_some_iff.1 h4).1
        omega
    · rw [List.pairwise_iff_getElem]
      intro j j' hj hj' hlt h1 h2
      have g1 : k[j]? = some k[j] := List.getElem?_eq_getElem hj
      have g2 : k[j']? = some k[j'] := List.getElem?_eq_getElem hj'
      rcases hb2 j _ g1 with e | ⟨i, e⟩
      · exact absurd e h1
      rcases hb2 j' _ g2 with e' | ⟨i', e'⟩
      · exact absurd e' h2
      rw [e] at g1
      rw [e'] at g2
      have q1 := (hb i j hj).1 g1
      have q2 := (hb i' j' hj').1 g2
      rw [e, e']
      have b1 := (List.getElem?_eq_some_iff.1 q1)
      have b2 := (List.getElem?_eq_some_iff.1 q2)
      obtain ⟨b1, v1⟩ := b1
      obtain ⟨b2, v2⟩ := b2
      rcases Nat.lt_trichotomy i i' with h | h | h
      · omega
      · subst h
        omega
      · have := hlp i' i b2 b1 h (by omega) (by omega)
        omega
  refine ⟨by unfold may; simp [hmk], ?_⟩
  unfold chs
  rw [chL_pairs, chL_pairs, chP_swap]
  have hpe : prL k 0 = (prL l 0).map Prod.swap := by
    refine rising_eq (f := Prod.fst) ((prL_rise _ k 0 0 hmk).imp fun h => h.1) ?_ hmem
    rw [List.pairwise_map]
    exact (prL_rise n l 0 0 hml).imp fun h => h.2
  rw [hpe, Int.zero_add, Int.zero_add, hk]

/-- How many old places, and new ones, lie in changes. -/
def sumO : List Ch → Int
  | [] => 0
  | c :: l => (c.1.2 - c.1.1) + sumO l
def sumN : List Ch → Int
  | [] => 0
  | c :: l => (c.2.2 - c.2.1) + sumN l
theorem sumO_append (l k : List Ch) : sumO (l ++ k) = sumO l + sumO k := by
  induction l with
  | nil => simp [sumO]
  | cons c l ih => simp only [List.cons_append, sumO, ih]; omega
theorem sumN_append (l k : List Ch) : sumN (l ++ k) = sumN l + sumN k := by
  induction l with
  | nil => simp [sumN]
  | cons c l ih => simp only [List.cons_append, sumN, ih]; omega
/-- How many are paired. -/
def cntP : List Int → Nat
  | [] => 0
  | v :: l => (if 0 ≤ v then 1 else 0) + cntP l
theorem cntP_snoc (l : List Int) (v : Int) : cntP (l ++ [v]) = cntP l + if 0 ≤ v then 1 else 0 := by
  induction l with
  | nil => simp [cntP]
  | cons u l ih => simp only [List.cons_append, cntP, ih]; omega
theorem cntP_le : ∀ l : List Int, cntP l ≤ l.length
  | [] => Nat.le_refl _
  | v :: l => by have := cntP_le l; unfold cntP; simp only [List.length_cons]; split <;> omega

theorem sumO_chL (n : Int) : ∀ (l : List Int) (i x y : Int), x ≤ i → 0 ≤ y → mayL n l y = true → sumO (chL n l i x y) + cntP l = i - x + l.length
  | [], i, x, y, hx, hy, h => by
    unfold chL
    split <;> simp [sumO, cntP] <;> omega
  | v :: l, i, x, y, hx, hy, h => by
    unfold mayL at h
    unfold chL cntP
    simp only [List.length_cons]
    split at h
    · rename_i hv
      have := sumO_chL n l (i + 1) x y (by omega) hy h
      rw [if_pos hv, if_neg (show ¬ 0 ≤ v by omega)]
      push_cast
      omega
    · rename_i hv
      simp only [Bool.and_eq_true, decide_eq_true_eq] at h
      have := sumO_chL n l (i + 1) (i + 1) (v + 1) (Int.le_refl _) (by omega) h.2
      rw [if_neg hv, if_pos (show 0 ≤ v by omega), sumO_append]
      have h1 : sumO (if x < i ∨ y < v then [((x, i), (y, v))] else []) = i - x := by
        split <;> simp [sumO] <;> omega
      push_cast
      omega
theorem sumN_chL (n : Int) : ∀ (l : List Int) (i x y : Int), x ≤ i → 0 ≤ y → y ≤ n → mayL n l y = true → sumN (chL n l i x y) + cntP l = n - y
  | [], i, x, y, hx, hy, hyn, h => by
    unfold chL
    split <;> simp [sumN, cntP] <;> omega
  | v :: l, i, x, y, hx, hy, hyn, h => by
    unfold mayL at h
    unfold chL cntP
    split at h
    · rename_i hv
      have := sumN_chL n l (i + 1) x y (by omega) hy hyn h
      rw [if_pos hv, if_neg (show ¬ 0 ≤ v by omega)]
      push_cast
      omega
    · rename_i hv
      simp only [Bool.and_eq_true, decide_eq_true_eq] at h
      have := sumN_chL n l (i + 1) (i + 1) (v + 1) (Int.le_refl _) (by omega) (by omega) h.2
      rw [if_neg hv, if_pos (show 0 ≤ v by omega), sumN_append]
      have h1 : sumN (if x < i ∨ y < v then [((x, i), (y, v))] else []) = v - y := by
        split <;> simp [sumN] <;> omega
      push_cast
      omega
/-- A change lies between what isn't told yet and the lists' ends. -/
theorem chL_lies (n : Int) : ∀ (l : List Int) (i x y : Int), x ≤ i → 0 ≤ y → y ≤ n → mayL n l y = true → ∀ c ∈ chL n l i x y, x ≤ c.1.1 ∧ c.1.1 ≤ c.1.2 ∧ c.1.2 ≤ i + l.length ∧ y ≤ c.2.1 ∧ c.2.1 ≤ c.2.2 ∧ c.2.2 ≤ n
  | [], i, x, y, hx, hy, hyn, h => by
    unfold chL
    intro c hc
    split at hc
    · simp at hc
      subst hc
      simp
      omega
    · cases hc
  | v :: l, i, x, y, hx, hy, hyn, h => by
    unfold mayL at h
    unfold chL
    intro c hc
    simp only [List.length_cons]
    push_cast
    split at h
    · rename_i hv
      rw [if_pos hv] at hc
      have := chL_lies n l (i + 1) x y (by omega) hy hyn h c hc
      omega
    · rename_i hv
      simp only [Bool.and_eq_true, decide_eq_true_eq] at h
      rw [if_neg hv] at hc
      rcases List.mem_append.1 hc with hc | hc
      · split at hc
        · simp at hc
          subst hc
          simp
          omega
        · cases hc
      · have := chL_lies n l (i + 1) (i + 1) (v + 1) (Int.le_refl _) (by omega) (by omega) h.2 c hc
        omega
/-- Between two changes something is paired. -/
theorem chL_apart (n : Int) : ∀ (l : List Int) (i x y : Int), x ≤ i → 0 ≤ y → y ≤ n → mayL n l y = true → (chL n l i x y).Pairwise (fun c d => c.1.2 < d.1.1 ∧ c.2.2 < d.2.1)
  | [], i, x, y, hx, hy, hyn, h => by
    unfold chL
    split <;> simp
  | v :: l, i, x, y, hx, hy, hyn, h => by
    unfold mayL at h
    unfold chL
    split at h
    · rename_i hv
      rw [if_pos hv]
      exact chL_apart n l (i + 1) x y (by omega) hy hyn h
    · rename_i hv
      simp only [Bool.and_eq_true, decide_eq_true_eq] at h
      rw [if_neg hv, List.pairwise_append]
      refine ⟨by split <;> simp, chL_apart n l (i + 1) (i + 1) (v + 1) (Int.le_refl _) (by omega) (by omega) h.2, fun c hc d hd => ?_⟩
      have := chL_lies n l (i + 1) (i + 1) (v + 1) (Int.le_refl _) (by omega) (by omega) h.2 d hd
      split at hc
      · simp at hc
        subst hc
        simp
        omega
      · cases hc
theorem sumO_le {l : List Ch} (h : ∀ c ∈ l, c.1.1 ≤ c.1.2) : 0 ≤ sumO l := by
  induction l with
  | nil => simp [sumO]
  | cons c l ih => have := ih fun d hd => h d (List.mem_cons_of_mem _ hd); have := h c (List.mem_cons_self ..); unfold sumO; omega
theorem sumN_le {l : List Ch} (h : ∀ c ∈ l, c.2.1 ≤ c.2.2) : 0 ≤ sumN l := by
  induction l with
  | nil => simp [sumN]
  | cons c l ih => have := ih fun d hd => h d (List.mem_cons_of_mem _ hd); have := h c (List.mem_cons_self ..); unfold sumN; omega
end Go.Proofs.YtoopdgohdeddoaaGreatDoor
