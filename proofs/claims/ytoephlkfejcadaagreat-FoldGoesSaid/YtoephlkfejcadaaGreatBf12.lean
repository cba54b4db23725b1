/- Proved here: texts joined: CkOut. -/
import Derived.Test.YtoephlkfejcadaaGreatBf11
/- Proved here, without conditions on the program: chunks of the call's own. -/
namespace Go.Proofs.YtoephlkfejcadaaGreat
open Go.RowKit
set_option linter.unusedVariables false

theorem infoCk : (Tryz.prog.info? 91).map (fun i => (i.zero, i.size, i.bytes)) = some (some (.agg #[.bool false, .int .i64 0, .int .i64 0, .slice none 0 0]), 4, 48) := by kernel_rfl
/-- A chunk's sides, as a slice. -/
abbrev CkV := Option Addr × Nat × Nat
def ckR (w : World) (B : Nat) (r : CkV) (c : Ck) : Prop := r.2.1 ≤ r.2.2 ∧ r.2.2 ≤ maxLen ∧ Spans w B r.1 r.2.1 c.2.2
def cqC (q : CkV × Ck) : List Value := [.bool q.2.1, .int .i64 q.2.2.1.1, .int .i64 q.2.2.1.2, .slice q.1.1 q.1.2.1 q.1.2.2]
def cqCs (qs : List (CkV × Ck)) : List Value := qs.flatMap cqC
def cksOf (qs : List (CkV × Ck)) : List Ck := qs.map fun q => q.2
theorem ckR.keep {w w' : World} {B : Nat} {r : CkV} {c : Ck} (h : ckR w B r c) (hk : ∀ p : Addr, p.block < B → w'.cell? p = w.cell? p) : ckR w' B r c := ⟨h.1, h.2.1, h.2.2.keep hk⟩
theorem ckR.more {w : World} {B B' : Nat} {r : CkV} {c : Ck} (h : ckR w B r c) (hB : B ≤ B') : ckR w B' r c := ⟨h.1, h.2.1, h.2.2.more hB⟩
theorem cqCs_len : ∀ qs : List (CkV × Ck), (cqCs qs).length = qs.length * 4
  | [] => rfl
  | q :: qs => by
    show (cqC q ++ cqCs qs).length = _
    rw [List.length_append, cqCs_len qs, List.length_cons]
    show 4 + qs.length * 4 = _
    omega
theorem cqCs_at : ∀ (qs : List (CkV × Ck)) (j r : Nat) (q : CkV × Ck), qs[j]? = some q → r < 4 → (cqCs qs)[j * 4 + r]? = (cqC q)[r]?
  | [], _, _, _, h, _ => by simp at h
  | d :: qs, 0, r, q, h, hr => by
    simp at h
    subst h
    show (cqC d ++ cqCs qs)[0 * 4 + r]? = _
    rw [Nat.zero_mul, Nat.zero_add, List.getElem?_append_left (by show r < 4; exact hr)]
  | d :: qs, j + 1, r, q, h, hr => by
    show (cqC d ++ cqCs qs)[(j + 1) * 4 + r]? = _
    rw [List.getElem?_append_right (by show 4 ≤ _; omega), show (j + 1) * 4 + r - (cqC d).length = j * 4 + r by show (j + 1) * 4 + r - 4 = _; omega]
    exact cqCs_at qs j r q (by simpa using h) hr
theorem cqCs_snoc (qs : List (CkV × Ck)) (q : CkV × Ck) : cqCs (qs ++ [q]) = cqCs qs ++ cqC q := by simp [cqCs]
theorem cqC_one (q : CkV × Ck) : ∀ u ∈ cqC q, u.oneCell' = true := by
  intro u hu
  simp [cqC] at hu
  rcases hu with rfl | rfl | rfl | rfl <;> rfl
def ckObj (q : CkV × Ck) : Obj := .cells #[.bool q.2.1, .int .i64 q.2.2.1.1, .int .i64 q.2.2.1.2, .slice q.1.1 q.1.2.1 q.1.2.2] 91
theorem cell_new_cq (w : World) (q : CkV × Ck) : ∀ j u, (cqC q)[j]? = some u → (w.alloc (ckObj q)).cell? ((⟨w.heap.size, 0, none⟩ : Addr).add j) = some u := by
  intro j u hu
  unfold ckObj
  rw [addr_add, World.cell?_alloc_mark]
  simpa [cqC] using hu

/-- Chunks of the call's own, above block B; their sides stand, whatever becomes of the chunks' own block, and of what lies below B. -/
structure CksO (B : Nat) (wr : World) (v : Value) (qs : List (CkV × Ck)) : Prop where
  own : wr.ownsRow B 91 4 v qs.length (cqCs qs)
  row : ∀ w2, But (fun k => v.ownBlock = some k ∨ k < B) wr w2 → ∀ q ∈ qs, ckR w2 w2.heap.size q.1 q.2
  size : B ≤ wr.heap.size
section
variable {B : Nat} {wr w1 w2 : World} {v v' : Value} {qs : List (CkV × Ck)}
theorem CksO.start {B : Nat} {w : World} (h : B ≤ w.heap.size) : CksO B w (.slice none 0 0) [] := ⟨World.ownsRow_nil _ _ _ _, fun w2 h q hq => by simp at hq, h⟩
theorem CksO.up (h : CksO B wr v qs) (hb : Below wr.heap.size wr w1) : CksO B w1 v qs :=
  ⟨ownsRow_kept h.own fun k e => hb.block k (h.own.lt k e).2, fun w2 h2 => h.row w2 ((But.of_below hb fun k hk _ => hk).trans h2 fun k e => .inl e), Nat.le_trans h.size hb.size⟩
theorem CksO.touch (h : CksO B wr v qs) (hb : But (fun k => k < B) wr w1) : CksO B w1 v qs :=
  ⟨ownsRow_kept h.own fun k e => hb.block k (h.own.lt k e).2 (by have := (h.own.lt k e).1; omega), fun w2 h2 => h.row w2 ((hb.more fun k e => .inr e).trans h2 fun k e => .inl e), Nat.le_trans h.size hb.size⟩
theorem CksO.put {q : CkV × Ck} {o : Obj} (h : CksO B wr v qs) (hr : ∀ w2, But (fun k => v.ownBlock = some k ∨ k < B) wr w2 → ckR w2 w2.heap.size q.1 q.2)
    (hown : w2.ownsRow B 91 4 v' (qs.length + 1) (cqCs qs ++ cqC q)) (hg : (wr.alloc o).grownBy w2 v.ownBlock) (hloc : v'.ownBlock = v.ownBlock ∨ v'.ownBlock = some (wr.alloc o).heap.size) : CksO B w2 v' (qs ++ [q]) := by
  have hb2 : But (fun k => v.ownBlock = some k ∨ k < B) wr w2 := ((But.alloc wr o).trans (But.of_grown hg fun k e => e) fun k e => .inl e).more fun k e => .inl e
  refine ⟨by rw [List.length_append, cqCs_snoc]; exact hown, fun w3 h3 p hp => ?_, Nat.le_trans h.size hb2.size⟩
  have hb3 : But (fun k => v.ownBlock = some k ∨ k < B) wr w3 := hb2.trans h3 fun k e => by
    rcases e with e | e
    · rcases hloc with hl | hl
      · exact .inl (.inl (hl.symm.trans e))
      · rw [hl] at e
        injection e with e
        exact .inr (by rw [← e]; simp)
    · exact .inl (.inr e)
  rcases List.mem_append.1 hp with hp | hp
  · exact h.row w3 hb3 p hp
  · rw [List.mem_singleton.1 hp]
    exact hr w3 hb3
/-- Without the last one. -/
theorem CksO.pop {g cap n : Nat} {q : CkV × Ck} (h : CksO B wr (.slice (some ⟨g, 0, none⟩) (n + 1) cap) (qs ++ [q])) (hn : qs.length = n) : CksO B wr (.slice (some ⟨g, 0, none⟩) n cap) qs := by
  have h1 := h.own
  rw [List.length_append, List.length_singleton, hn, cqCs_snoc] at h1
  refine ⟨by rw [hn]; exact ownsRow_pop (by rw [cqCs_len, hn]) h1, fun w2 h2 p hp => h.row w2 h2 p (List.mem_append_left _ hp), h.size⟩
theorem CksO.reads (h : CksO B wr v qs) : ∃ A c, v = .slice A qs.length c ∧ qs.length ≤ c ∧ c ≤ maxLen ∧ Cks wr wr.heap.size A qs.length (cksOf qs) := by
  have hr := h.own
  have hrow := h.row wr (But.refl _ _)
  have hread : ∀ (g c : Nat), v = .slice (some ⟨g, 0, none⟩) qs.length c → Cks wr wr.heap.size (some ⟨g, 0, none⟩) qs.length (cksOf qs) := by
    rintro g c rfl
    refine ⟨by simp [cksOf], fun hn => ⟨g, 0, rfl, (hr.lt g rfl).2, fun j c hj => ?_⟩⟩
    unfold cksOf at hj
    rw [List.getElem?_map] at hj
    cases hq : qs[j]? with
    | none => rw [hq] at hj; cases hj
    | some q =>
      rw [hq] at hj
      simp at hj
      subst hj
      have hc := hr.cells (g := g) rfl
      have kk : ∀ r, r < 4 → ∀ u, (cqC q)[r]? = some u → wr.cell? ⟨g, 0 + j * 4 + r, none⟩ = some u := fun r hr2 u hu => by
        rw [Nat.zero_add, ← addr_add]
        exact hc _ u ((cqCs_at qs j r _ hq hr2).trans hu)
      have k0 := kk 0 (by omega) (.bool q.2.1) rfl
      have k1 := kk 1 (by omega) (.int .i64 q.2.2.1.1) rfl
      have k2 := kk 2 (by omega) (.int .i64 q.2.2.1.2) rfl
      have k3 := kk 3 (by omega) (.slice q.1.1 q.1.2.1 q.1.2.2) rfl
      obtain ⟨e1, e2, e3⟩ := hrow q (List.mem_of_getElem? hq)
      exact ⟨k0, k1, k2, q.1.1, q.1.2.1, q.1.2.2, k3, e1, e2, e3⟩
  rcases hr.2 with ⟨rfl, h0⟩ | ⟨g, cap, cur, rfl, _, _, hnc, hcm, _⟩
  · have : qs = [] := List.eq_nil_of_length_eq_zero h0
    subst this
    exact ⟨none, 0, rfl, Nat.le_refl _, Nat.zero_le _, Cks.nil _ _ _⟩
  · exact ⟨_, cap, rfl, hnc, hcm, hread g cap rfl⟩
end
/-- Chunks that a call tells, and no error. -/
def CksOut (w w' : World) (e : Ending) (cs : List Ck) : Prop := ∃ A n c, e = .returned (.tuple #[.slice A n c, .int .i64 0]) ∧ n ≤ c ∧ c ≤ maxLen ∧ Cks w' w'.heap.size A n cs ∧ Below w.heap.size w w'
/-- A chunk that was told stands, but for blocks that lay ahead. -/
theorem ChunkOut.stay {F : Nat → Prop} {w w' w2 : World} {A : Option Addr} {n cap : Nat} {c : Ck} (h1 : n ≤ cap) (h2 : cap ≤ maxLen) (h3 : Spans w' w'.heap.size A n c.2.2) (h4 : 0 < n → ∀ g o, A = some ⟨g, o, none⟩ → w.heap.size ≤ g) (hb : But F w' w2) (hF : ∀ k, F k → k < w.heap.size) : ckR w2 w2.heap.size (A, n, cap) c := by
  refine ⟨h1, h2, h3.1, fun hn => ?_⟩
  obtain ⟨b, o, e, hlt, hc⟩ := h3.2 hn
  have hge := h4 hn b o e
  have key : ∀ q : Addr, q.block = b → w2.cell? q = w'.cell? q := fun q hq => World.cell?_of_block (by rw [hq]; exact hb.block b hlt (fun hf => by have := hF b hf; omega))
  exact ⟨b, o, e, Nat.lt_of_lt_of_le hlt hb.size, fun j s hj => ⟨(key _ rfl).trans (hc j s hj).1, (key _ rfl).trans (hc j s hj).2⟩⟩
end Go.Proofs.YtoephlkfejcadaaGreat
