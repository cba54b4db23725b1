/- Proved here: texts joined: PkNm, PkNorm. -/
import Derived.Test.YtoephlkfejcadaaGreatBf20
import Derived.Test.YtoephlkfejcadaaGreatBf42
/- Proved here: the contract of the landed pick.Normal. -/
namespace Go.Proofs.YtoephlkfejcadaaGreat
open Go.RowKit
set_option linter.unusedVariables false

/-- The blocks that the pile of pieces turns: its own, that of the pieces, that of the last one's text; and all that were there. -/
def FP (w : World) (v u : Value) (k : Nat) : Prop := k ≤ w.heap.size ∨ v.ownBlock = some k ∨ u.ownBlock = some k
/-- The pile of pieces. -/
structure NorS (w wr : World) (v : Value) (qs : List (PcV × Pc)) (u : Value) : Prop where
  box : Boxed wr w.heap.size 95 v
  fn : Boxed wr (w.heap.size + 1) 96 (.func (.func 51) #[.pointer (some ⟨w.heap.size, 0, none⟩)] #[])
  own : wr.ownsRow w.heap.size 44 4 v qs.length (pcCs qs)
  below : Below w.heap.size w wr
  row : ∀ (k : Nat) (q : PcV × Pc), qs[k]? = some q → (k + 1 < qs.length ∨ q.2.1 = true) → ∀ w2, But (FP w v u) wr w2 → PcR w2 w2.heap.size q.1 q.2
  last : ∀ (k : Nat) (q : PcV × Pc), qs[k]? = some q → k + 1 = qs.length → q.2.1 = false → slcV q.1.1 = u ∧ q.1.2 = ((none, 0, 0), (none, 0, 0)) ∧ q.2 = tPc q.2.2.1 ∧ wr.ownsRow w.heap.size 9 1 u q.2.2.1.length (q.2.2.1.map fun s => .string (str s))
section
variable {w wr w1 w2 : World} {v v' u u' : Value} {qs : List (PcV × Pc)} {r : PcV} {p : Pc}
theorem NorS.start (w : World) : NorS w ((w.alloc (.cells #[.slice none 0 0] 95)).alloc (.cells #[.func (.func 51) #[.pointer (some ⟨w.heap.size, 0, none⟩)] #[]] 96)) (.slice none 0 0) [] (.slice none 0 0) := by
  have h := two_a w (.cells #[.slice none 0 0] 95) (.cells #[.func (.func 51) #[.pointer (some ⟨w.heap.size, 0, none⟩)] #[]] 96)
  exact ⟨h.1, h.2, World.ownsRow_nil _ _ _ _, ((Below.refl _ w).alloc (Nat.le_refl _) _).alloc (by simp) _, fun k q h => by simp at h, fun k q h => by simp at h⟩
theorem NorS.up (h : NorS w wr v qs u) (hb : Below wr.heap.size wr w1) : NorS w w1 v qs u :=
  ⟨(hb.block _ h.box.lt).trans h.box, (hb.block _ h.fn.lt).trans h.fn, ownsRow_kept h.own fun k e => hb.block k (h.own.lt k e).2, h.below.trans (hb.mono h.below.size),
    fun k q a b w2 h2 => h.row k q a b w2 ((But.of_below hb fun k hk _ => hk).trans h2 fun k e => .inl e),
    fun k q a b c => by
      obtain ⟨h1, h2, h3, h4⟩ := h.last k q a b c
      exact ⟨h1, h2, h3, ownsRow_kept h4 fun k e => hb.block k (h4.lt k e).2⟩⟩
/-- The last text's row is not that of the pieces. -/
theorem rows_apart {w : World} {b1 b2 n m s1 s2 : Nat} {e1 e2 : TypeId} {v u : Value} {xs ys : List Value} (h : w.ownsRow b1 e1 s1 v n xs) (k : w.ownsRow b2 e2 s2 u m ys) (hne : e1 ≠ e2) : ∀ j, v.ownBlock = some j → u.ownBlock ≠ some j := by
  intro j hj e
  rcases h.2 with ⟨rfl, _⟩ | ⟨g, cap, cur, rfl, _, hg, _⟩
  · simp [Value.ownBlock] at hj
  · rcases k.2 with ⟨rfl, _⟩ | ⟨g', cap', cur', rfl, _, hg', _⟩
    · simp [Value.ownBlock] at e
    · simp only [Value.ownBlock, Option.some.injEq] at e hj
      rw [e, ← hj, hg] at hg'
      injection hg' with hg'
      simp at hg'
      exact hne hg'.2
theorem text_row {b : Nat} {q : PcV × Pc} (l1 : slcV q.1.1 = u) (l2 : q.1.2 = ((none, 0, 0), (none, 0, 0))) (l3 : q.2 = tPc q.2.2.1) (hk : w1.ownsRow b 9 1 u q.2.2.1.length (q.2.2.1.map fun s => .string (str s))) : PcR w1 w1.heap.size q.1 q.2 := by
  obtain ⟨A', c', e', r1, r2, r3⟩ := own_slice hk
  obtain ⟨⟨⟨A, n, c⟩, qr⟩, qp⟩ := q
  dsimp only at l1 l2 l3 e' r1 r2 r3 ⊢
  subst l2
  rw [← l1] at e'
  injection e' with e1 e2 e3
  dsimp only at e1 e2 e3
  subst e1
  subst e2
  subst e3
  rw [l3]
  exact PcR.text ⟨r1, r2, r3⟩
theorem NorS.put {W1 : World} (h : NorS w wr v qs u) (hb : Below wr.heap.size wr W1) (hnew : p.1 = true → ∀ w3, But (fun k => k < wr.heap.size) W1 w3 → PcR w3 w3.heap.size r p)
    (hown : w2.ownsRow w.heap.size 44 4 v' (qs.length + 1) (pcCs qs ++ pcC p.1 r)) (hg : W1.grownBy w2 v.ownBlock) (hloc : v'.ownBlock = v.ownBlock ∨ v'.ownBlock = some W1.heap.size)
    (hu : p.1 = false → slcV r.1 = u' ∧ r.2 = ((none, 0, 0), (none, 0, 0)) ∧ p = tPc p.2.1 ∧ W1.ownsRow wr.heap.size 9 1 u' p.2.1.length (p.2.1.map fun s => .string (str s)))
    (hc : p.1 = true → u' = .slice none 0 0) : NorS w (w2.setCell ⟨w.heap.size, 0, none⟩ v') v' (qs ++ [(r, p)]) u' := by
  have hL := h.box.lt
  have hs1 := hb.size
  have hs0 := h.below.size
  have hvl : ∀ k, v.ownBlock = some k → k ≠ w.heap.size := fun k e h1 => Boxed.not_row h.box (by decide) h.own (by rw [e, h1])
  have hvf : ∀ k, v.ownBlock = some k → k ≠ w.heap.size + 1 := fun k e h1 => Boxed.not_row h.fn (by decide) h.own (by rw [e, h1])
  have hbS : But (fun k => k = w.heap.size) w2 (w2.setCell ⟨w.heap.size, 0, none⟩ v') := But.setCell (F := fun k => k = w.heap.size) w2 (p := ⟨w.heap.size, 0, none⟩) rfl _
  have hb12 : But (fun k => v.ownBlock = some k) W1 w2 := But.of_grown hg fun k e => e
  have hb02 : But (fun k => v.ownBlock = some k) wr w2 := (But.of_below (F := fun k => v.ownBlock = some k) hb fun k hk _ => hk).trans hb12 fun k e => .inl e
  have hb0S : But (fun k => k = w.heap.size ∨ v.ownBlock = some k) wr (w2.setCell ⟨w.heap.size, 0, none⟩ v') := (hb02.more (F' := fun k => k = w.heap.size ∨ v.ownBlock = some k) fun k e => .inr e).trans hbS fun k e => .inl (.inl e)
  have hbox2 : Boxed w2 w.heap.size 95 v := (hb02.block _ hL fun e => hvl _ e rfl).trans h.box
  have hv' : ∀ k, v'.ownBlock = some k → v.ownBlock = some k ∨ W1.heap.size ≤ k := fun k e => by
    rcases hloc with h1 | h1
    · exact .inl (h1.symm.trans e)
    · rw [h1] at e
      injection e with e
      exact .inr (Nat.le_of_eq e)
  have hv'L : ∀ k, v'.ownBlock = some k → k ≠ w.heap.size := fun k e h1 => Boxed.not_row hbox2 (by decide) hown (by rw [e, h1])
  have huW : ∀ k, u'.ownBlock = some k → wr.heap.size ≤ k ∧ k < W1.heap.size := fun k e => by
    cases hp : p.1
    · exact (hu hp).2.2.2.lt k e
    · rw [hc hp] at e
      simp [Value.ownBlock] at e
  -- what becomes of a world behind this one, for what lay ahead
  have hall : ∀ w3, But (FP w v' u') (w2.setCell ⟨w.heap.size, 0, none⟩ v') w3 → But (fun k => k ≤ w.heap.size ∨ v.ownBlock = some k) wr w3 := fun w3 h3 => (hb0S.more (F' := fun k => k ≤ w.heap.size ∨ v.ownBlock = some k) fun k e => Or.elim e (fun e => .inl (Nat.le_of_eq e)) .inr).trans h3 fun k e => by
    rcases e with e | e | e
    · exact .inl (.inl e)
    · rcases hv' k e with h1 | h1
      · exact .inl (.inr h1)
      · exact .inr (by omega)
    · exact .inr (huW k e).1
  refine ⟨hbox2.set _, (hb0S.block _ h.fn.lt (fun e => Or.elim e (fun e => by omega) fun e => hvf _ e rfl)).trans h.fn, ?_, h.below.trans (hb0S.below hs0 (fun k e => Or.elim e (fun e => Nat.le_of_eq e.symm) fun e => (h.own.lt k e).1)), fun k q a b w3 h3 => ?_, fun k q a b c => ?_⟩
  · rw [List.length_append, pcCs_snoc]
    exact ownsRow_kept hown fun k e => hbS.block k (hown.lt k e).2 (hv'L k e)
  · rcases Nat.lt_or_ge k qs.length with hk | hk
    · rw [List.getElem?_append_left hk] at a
      by_cases hq : k + 1 < qs.length ∨ q.2.1 = true
      · exact h.row k q a hq w3 ((hall w3 h3).more fun k e => Or.elim e (fun e => .inl e) fun e => .inr (.inl e))
      · have hk1 : k + 1 = qs.length := by omega
        have hqf : q.2.1 = false := by cases hqq : q.2.1; rfl; exact absurd (.inr hqq) hq
        obtain ⟨l1, l2, l3, l4⟩ := h.last k q a hk1 hqf
        have hk3 := ownsRow_kept l4 (w' := w3) fun j e => (hall w3 h3).block j (l4.lt j e).2 (by
          rintro (h1 | h1)
          · exact Boxed.not_row h.box (by decide) l4 (by rw [e, Nat.le_antisymm h1 (l4.lt j e).1])
          · exact rows_apart h.own l4 (by decide) j h1 e)
        exact text_row l1 l2 l3 hk3
    · rw [List.getElem?_append_right hk] at a
      have hk0 : k = qs.length := by
        have := (List.getElem?_eq_some_iff.1 a).1
        simp at this
        omega
      subst hk0
      simp at a
      subst a
      have hp : p.1 = true := by
        rcases b with b | b
        · simp at b
        · exact b
      have hun := hc hp
      refine hnew hp w3 (((hb12.more (F' := fun k => k < wr.heap.size) fun k e => (h.own.lt k e).2).trans hbS fun k (e : k = w.heap.size) => .inl (by omega)).trans h3 fun k e => ?_)
      rcases e with e | e | e
      · exact .inl (by omega)
      · rcases hv' k e with h1 | h1
        · exact .inl (h.own.lt k h1).2
        · exact .inr h1
      · rw [hun] at e
        simp [Value.ownBlock] at e
  · have hk : qs.length ≤ k := by simp at b; omega
    rw [List.getElem?_append_right hk] at a
    have hk0 : k = qs.length := by
      have := (List.getElem?_eq_some_iff.1 a).1
      simp at this
      omega
    subst hk0
    simp at a
    subst a
    obtain ⟨l1, l2, l3, l4⟩ := hu c
    refine ⟨l1, l2, l3, ownsRow_low (ownsRow_kept l4 fun j e => ?_) hs0⟩
    have h5 := l4.lt j e
    exact (hbS.block j (by have := hg.size; omega) (by omega)).trans (hb12.block j h5.2 fun e2 => by have := (h.own.lt j e2).2; omega)
/-- A text more behind the last one. -/
theorem NorS.ext {g n cap : Nat} {A : Option Addr} {m c : Nat} {qs0 : List (PcV × Pc)} {ys : Txs} (h : NorS w wr (.slice (some ⟨g, 0, none⟩) n cap) (qs0 ++ [(r, p)]) u) (hn : qs0.length + 1 = n) (hp : p.1 = false)
    (hown : w2.ownsRow w.heap.size 9 1 (.slice A m c) (p.2.1.length + ys.length) ((p.2.1.map fun s => .string (str s)) ++ ys.map fun s => .string (str s))) (hg : wr.grownBy w2 u.ownBlock) (hloc : (Value.slice A m c).ownBlock = u.ownBlock ∨ (Value.slice A m c).ownBlock = some wr.heap.size) :
    w2.ownsRow w.heap.size 44 4 (.slice (some ⟨g, 0, none⟩) n cap) n (pcCs (qs0 ++ [(r, p)])) ∧ NorS w (w2.setCell ⟨g, qs0.length * 4 + 1, none⟩ (.slice A m c)) (.slice (some ⟨g, 0, none⟩) n cap) (qs0 ++ [(((A, m, c), (none, 0, 0), (none, 0, 0)), tPc (p.2.1 ++ ys))]) (.slice A m c) := by
  have hlen : (qs0 ++ [(r, p)]).length = n := by simp; omega
  obtain ⟨l1, l2, l3, l4⟩ := h.last qs0.length (r, p) (by simp) (by simp) hp
  dsimp only at l1 l2 l3 l4
  have hgn : u.ownBlock ≠ some g := rows_apart h.own l4 (by decide) g rfl
  have how : w2.ownsRow w.heap.size 44 4 (.slice (some ⟨g, 0, none⟩) n cap) n (pcCs (qs0 ++ [(r, p)])) := by
    have := h.own
    rw [hlen] at this
    exact this.kept hg (.inr fun e => hgn e.symm)
  refine ⟨how, ?_⟩
  obtain ⟨s1, s2⟩ := how.stored (qs0.length * 4 + 1) (.slice A m c)
  have hgl : (g : Nat) ≠ w.heap.size := fun e => Boxed.not_row h.box (by decide) h.own (by rw [← e]; rfl)
  have hgf : (g : Nat) ≠ w.heap.size + 1 := fun e => Boxed.not_row h.fn (by decide) h.own (by rw [← e]; rfl)
  have hul : ∀ k, u.ownBlock = some k → k ≠ w.heap.size := fun k e h1 => Boxed.not_row h.box (by decide) l4 (by rw [e, h1])
  have huf : ∀ k, u.ownBlock = some k → k ≠ w.heap.size + 1 := fun k e h1 => Boxed.not_row h.fn (by decide) l4 (by rw [e, h1])
  have hb2 : But (fun k => u.ownBlock = some k) wr w2 := But.of_grown hg fun k e => e
  have hbS : But (fun k => k = g) w2 (w2.setCell ⟨g, qs0.length * 4 + 1, none⟩ (.slice A m c)) := But.setCell (F := fun k => k = g) w2 (p := ⟨g, qs0.length * 4 + 1, none⟩) rfl _
  have hb0b : But (fun k => k = g ∨ u.ownBlock = some k) wr (w2.setCell ⟨g, qs0.length * 4 + 1, none⟩ (.slice A m c)) := (hb2.more (F' := fun k => k = g ∨ u.ownBlock = some k) fun k e => .inr e).trans hbS fun k e => .inl (.inl e)
  have hb0 : But (FP w (.slice (some ⟨g, 0, none⟩) n cap) u) wr (w2.setCell ⟨g, qs0.length * 4 + 1, none⟩ (.slice A m c)) := hb0b.more fun k e => Or.elim e (fun e => .inr (.inl (by rw [e]; rfl))) fun e => .inr (.inr e)
  have hcells : (pcCs (qs0 ++ [(r, p)])).set (qs0.length * 4 + 1) (.slice A m c) = pcCs (qs0 ++ [(((A, m, c), (none, 0, 0), (none, 0, 0)), tPc (p.2.1 ++ ys))]) := by
    rw [pcCs_snoc, pcCs_snoc, List.set_append_right _ _ (by rw [pcCs_len]; omega), pcCs_len, show qs0.length * 4 + 1 - qs0.length * 4 = 1 by omega]
    congr 1
    obtain ⟨r1, r2⟩ := r
    dsimp only at l2
    subst l2
    show [Value.bool p.1, .slice A m c, slcV (none, 0, 0), slcV (none, 0, 0)] = [Value.bool false, .slice A m c, slcV (none, 0, 0), slcV (none, 0, 0)]
    rw [hp]
  have hx1 : g ≠ (w2.heap.size) := fun e => by have := (how.lt g rfl).2; omega
  refine ⟨(hbS.block _ (Nat.lt_of_lt_of_le h.box.lt hb2.size) (fun e => hgl e.symm)).trans ((hb2.block _ h.box.lt fun e => hul _ e rfl).trans h.box), (hbS.block _ (Nat.lt_of_lt_of_le h.fn.lt hb2.size) (fun e => hgf e.symm)).trans ((hb2.block _ h.fn.lt fun e => huf _ e rfl).trans h.fn), ?_,
    h.below.trans (hb0b.below h.below.size (fun k e => Or.elim e (fun e => (h.own.lt k (by rw [e]; rfl)).1) fun e => (l4.lt k e).1)), fun k q a b w3 h3 => ?_, fun k q a b c' => ?_⟩
  · rw [← hcells, List.length_append, List.length_singleton, hn]
    exact s1
  · have hk : k < qs0.length := by
      rcases b with b | b
      · simp at b; omega
      · have h7 := (List.getElem?_eq_some_iff.1 a).1
        simp at h7
        rcases Nat.lt_or_ge k qs0.length with h8 | h8
        · exact h8
        · have : k = qs0.length := by omega
          subst this
          simp at a
          subst a
          cases b
    have a2 : (qs0 ++ [(r, p)])[k]? = some q := by
      rw [List.getElem?_append_left hk] at a ⊢
      exact a
    refine h.row k q a2 (.inl (by simp; omega)) w3 (hb0.trans h3 fun j e => ?_)
    rcases e with e | e | e
    · exact .inl (.inl e)
    · exact .inl (.inr (.inl e))
    · rcases hloc with h9 | h9
      · exact .inl (.inr (.inr (h9.symm.trans e)))
      · rw [h9] at e
        injection e with e
        exact .inr (Nat.le_of_eq e)
  · have hk : k = qs0.length := by simp at b; omega
    subst hk
    simp at a
    subst a
    refine ⟨rfl, rfl, rfl, ownsRow_kept (w := w2) ?_ fun j e => hbS.block j (hown.lt j e).2 fun e2 => ?_⟩
    · show w2.ownsRow w.heap.size 9 1 (.slice A m c) (p.2.1 ++ ys).length ((p.2.1 ++ ys).map fun s => .string (str s))
      rw [List.length_append, List.map_append]
      exact hown
    · exact rows_apart how hown (by decide) g rfl (by rw [e, e2])
end
end Go.Proofs.YtoephlkfejcadaaGreat
/- Proved here: the contract of the landed pick.Normal. -/
namespace Go.Proofs.YtoephlkfejcadaaGreat
open Go.RowKit
set_option linter.unusedVariables false

theorem getLast_snoc {α : Type} {l : List α} (h : l ≠ []) : ∃ l0 x, l = l0 ++ [x] := by
  refine ⟨l.dropLast, l.getLast h, (List.dropLast_concat_getLast h).symm⟩
theorem neq_ptr (W : World) (a : Addr) : (binOp .neq 97 (.pointer (some a)) (.pointer none)).run Tryz.prog W = .ok (.bool true) W := by go_simp
theorem neq_nil (W : World) : (binOp .neq 97 (.pointer none) (.pointer none)).run Tryz.prog W = .ok (.bool false) W := by go_simp

theorem slice_own4 {w : World} {base n s : Nat} {e : TypeId} {v : Value} {xs : List Value} (h : w.ownsRow base e s v n xs) : ∃ A c, v = .slice A n c := by
  rcases h.2 with ⟨rfl, rfl⟩ | ⟨g, cap, cur, rfl, _⟩
  · exact ⟨none, 0, rfl⟩
  · exact ⟨_, cap, rfl⟩
theorem last_cells {W : World} {base g cap m N : Nat} {qs0 : List (PcV × Pc)} {r : PcV} {p : Pc} (hm : qs0.length = m) (hN : m + 1 = N) (h : W.ownsRow base 44 4 (.slice (some ⟨g, 0, none⟩) N cap) N (pcCs (qs0 ++ [(r, p)]))) : W.cell? ⟨g, m * 4, none⟩ = some (.bool p.1) ∧ W.cell? ⟨g, m * 4 + 1, none⟩ = some (slcV r.1) := by
  have hq : (qs0 ++ [(r, p)])[m]? = some (r, p) := by rw [← hm]; simp
  exact ⟨(h.cellAt (m * 4) (by omega)).trans (pcCs_at _ m 0 _ hq (by omega)), (h.cellAt (m * 4 + 1) (by omega)).trans (pcCs_at _ m 1 _ hq (by omega))⟩
/-- All pieces stand, the last one's text too. -/
theorem NorS.pcsO {w wr : World} {v u : Value} {qs : List (PcV × Pc)} (h : NorS w wr v qs u) : PcsO w wr v qs := by
  refine ⟨h.own, fun w2 h2 q hq => ?_, h.below⟩
  obtain ⟨k, hk⟩ := List.mem_iff_getElem?.1 hq
  have hb : But (FP w v u) wr w2 := h2.more fun k e => .inr (.inl e)
  by_cases hc : k + 1 < qs.length ∨ q.2.1 = true
  · exact h.row k q hk hc w2 hb
  · have hkl := (List.getElem?_eq_some_iff.1 hk).1
    have hqf : q.2.1 = false := by cases hqq : q.2.1; rfl; exact absurd (.inr hqq) hc
    obtain ⟨l1, l2, l3, l4⟩ := h.last k q hk (by omega) hqf
    exact text_row l1 l2 l3 (ownsRow_kept l4 (w' := w2) fun j e => h2.block j (l4.lt j e).2 fun e2 => rows_apart h.own l4 (by decide) j e2 e)

/-- The pieces lie in memory that the call has made. -/
theorem NorS.fresh {w wr : World} {v u : Value} {qs : List (PcV × Pc)} (h : NorS w wr v qs u) : PcsNew w wr (.returned v) (qs.map fun q => q.2) := by
  obtain ⟨A, c, hv, h1, h2, -⟩ := h.pcsO.reads
  refine ⟨A, _, c, qs.map fun q => q.1, by rw [hv], h1, h2, fun w2 hb => ?_, h.below⟩
  have hown : w2.ownsRow w.heap.size 44 4 v qs.length (pcCs qs) := ownsRow_kept h.own fun k e => hb.block k (h.own.lt k e).2 (by have := (h.own.lt k e).1; omega)
  obtain ⟨A', c', hv', -, -, h3⟩ := pcs_reads (w := w) hown fun q hq => by
    obtain ⟨k, hk⟩ := List.mem_iff_getElem?.1 hq
    have hb2 : But (FP w v u) wr w2 := hb.more fun k e => .inl (by omega)
    by_cases hc : k + 1 < qs.length ∨ q.2.1 = true
    · exact h.row k q hk hc w2 hb2
    · have hkl := (List.getElem?_eq_some_iff.1 hk).1
      have hqf : q.2.1 = false := by cases hqq : q.2.1; rfl; exact absurd (.inr hqq) hc
      obtain ⟨l1, l2, l3, l4⟩ := h.last k q hk (by omega) hqf
      exact text_row l1 l2 l3 (ownsRow_kept l4 (w' := w2) fun j e => hb.block j (l4.lt j e).2 (by have := (l4.lt j e).1; omega))
  rw [hv] at hv'
  injection hv' with e1 e2 e3
  subst e1
  exact h3

set_option maxRecDepth 100000 in
set_option maxHeartbeats 8000000 in
theorem norText_any (A : Option Addr) (n c : Nat) (v u : Value) (qs : List (PcV × Pc)) (ys : Txs) (w wr : World) (hP : NorS w wr v qs u) (hq : qs.length ≤ 100000) (hn : n ≤ 1000000) (hA : Strs wr w.heap.size A n ys) (hsm : ∀ q ∈ qs, q.2.2.1.length ≤ 1000000) :
    Calls Tryz.prog 52 #[.slice A n c, .pointer (some ⟨w.heap.size + 1, 0, none⟩), .pointer (some ⟨w.heap.size, 0, none⟩)] wr fun e w' => e = .returned (.tuple #[]) ∧ ∃ v' qs' u', NorS w w' v' qs' u' ∧ (qs'.map fun q => q.2) = pushT (qs.map fun q => q.2) ys := by
  obtain ⟨zs, hzs⟩ : ∃ zs, pushT (qs.map fun q => q.2) ys = zs := ⟨_, rfl⟩
  have hzsh := Lib.hid hzs
  rw [hzs]
  have x1 := hP.fn.cell
  have hl := hA.len
  have hlt := hP.fn.lt
  have hPh := Lib.hid hP
  have hTx := Lib.hid (fun W (hW : W = wr ∨ ∃ q, W = wr.drewN q) => text_any A n c w.heap.size ys W (by omega) (by rcases hW with rfl | ⟨q, rfl⟩; exact hP.below.size; exact hP.below.size) (by rcases hW with rfl | ⟨q, rfl⟩; exact hA; exact hA.drewN q))
  -- a new piece
  have hnew : Hid (∀ (W w1 w2 : World) (A3 : Option Addr) (c3 : Nat) (v' : Value), (W = wr ∨ ∃ q, W = wr.drewN q) → (∀ q, (qs.map fun q => q.2).getLast? = some q → q.1 = true) → TxO W w1 (.slice A3 ys.length c3) ys →
      w2.ownsRow w.heap.size 44 4 v' (qs.length + 1) (pcCs qs ++ pcC false ((A3, ys.length, c3), (none, 0, 0), (none, 0, 0))) →
      (w1.alloc (pcObj false ((A3, ys.length, c3), (none, 0, 0), (none, 0, 0)))).grownBy w2 v.ownBlock → (v'.ownBlock = v.ownBlock ∨ v'.ownBlock = some (w1.alloc (pcObj false ((A3, ys.length, c3), (none, 0, 0), (none, 0, 0)))).heap.size) →
      ∃ v1 qs1 u1, NorS w (w2.setCell ⟨w.heap.size, 0, none⟩ v') v1 qs1 u1 ∧ (qs1.map fun q => q.2) = zs) := Lib.hid (fun W w1 w2 A3 c3 v' hW hno hT h1 h2 h3 => by
    have hPW : NorS w W v qs u := by
      rcases hW with rfl | ⟨q, rfl⟩
      · exact hPh.out
      · exact hPh.out.up ⟨rfl, rfl, rfl, Nat.le_refl _, fun _ _ => rfl⟩
    have hsz := hT.below.size
    refine ⟨v', _, .slice A3 ys.length c3, hPW.put (r := ((A3, ys.length, c3), (none, 0, 0), (none, 0, 0))) (p := tPc ys) (hT.below.alloc hsz _) (fun h => by cases h) h1 h2 h3 (fun _ => ⟨rfl, rfl, rfl, hT.own.alloc _⟩) (fun h => by cases h), ?_⟩
    rw [← hzs, List.map_append, pushT_new ys hno]
    rfl)
  have hput : Hid (∀ (W w1 : World) (A3 : Option Addr) (c3 : Nat), (W = wr ∨ ∃ q, W = wr.drewN q) → TxO W w1 (.slice A3 ys.length c3) ys →
      Calls Tryz.prog 53 #[.pointer (some ⟨w.heap.size, 0, none⟩), .slice (some ⟨w1.heap.size, 0, none⟩) 1 1] (w1.alloc (pcObj false ((A3, ys.length, c3), (none, 0, 0), (none, 0, 0)))) fun e w' => e = .returned (.tuple #[]) ∧ ∃ v' w2, w' = w2.setCell ⟨w.heap.size, 0, none⟩ v' ∧
        w2.ownsRow w.heap.size 44 4 v' (qs.length + 1) (pcCs qs ++ pcC false ((A3, ys.length, c3), (none, 0, 0), (none, 0, 0))) ∧ (w1.alloc (pcObj false ((A3, ys.length, c3), (none, 0, 0), (none, 0, 0)))).grownBy w2 v.ownBlock ∧ (v'.ownBlock = v.ownBlock ∨ v'.ownBlock = some (w1.alloc (pcObj false ((A3, ys.length, c3), (none, 0, 0), (none, 0, 0)))).heap.size)) := Lib.hid (fun W w1 A3 c3 hW hT => by
    have hPW : NorS w W v qs u := by
      rcases hW with rfl | ⟨q, rfl⟩
      · exact hPh.out
      · exact hPh.out.up ⟨rfl, rfl, rfl, Nat.le_refl _, fun _ _ => rfl⟩
    have hP1 := (hPW.up hT.below).up ((Below.refl _ w1).alloc (Nat.le_refl _) (pcObj false ((A3, ys.length, c3), (none, 0, 0), (none, 0, 0))))
    exact pilePutP_any w.heap.size w.heap.size qs.length w1.heap.size v (pcCs qs) false ((A3, ys.length, c3), (none, 0, 0), (none, 0, 0)) _ (by omega) hP1.box hP1.own hP1.below.size (one_a _ _))
  clear hzs hl
  by_cases hq0 : qs = []
  · have hno : Hid (∀ q, (qs.map fun q => q.2).getLast? = some q → q.1 = true) := Lib.hid (fun q h => by rw [hq0] at h; simp at h)
    have h1 := hP.own
    have h2 : qs.length = 0 := by rw [hq0]; rfl
    obtain ⟨A1, c1, hv⟩ := slice_own4 h1
    rw [h2] at hv
    have hbx := hP.box
    rw [hv] at hbx
    have hLa := Lib.hid (pileLastP_none w.heap.size c1 A1 wr hbx)
    have hnl := neq_nil
    clear h1 h2 hv hbx hP hA hq0
    go_enter Tryz.func52, Tryz.ntmps52
    go_wp2_with (first
      | (go_at_call 51; refine hLa.out.mono ?_; rintro e w1 ⟨rfl, rfl⟩)
      | (go_at_call 54; refine (hTx.out _ (.inl rfl)).mono ?_; rintro e w2 ⟨A3, c3, rfl, hT3⟩; have hQ := Lib.hid (hput.out _ w2 A3 c3 (.inl rfl) hT3); have hT3h := Lib.hid hT3; clear hT3)
      | (go_at_call 53; refine hQ.out.mono ?_; rintro e w3 ⟨rfl, v', w4, rfl, h1, h2, h3⟩; have hfin := Lib.hid (hnew.out _ _ w4 _ _ v' (.inl rfl) hno.out hT3h.out h1 h2 h3); clear h1 h2 h3))
    go_end0
    exact ⟨rfl, hfin.out⟩
  · obtain ⟨qs0, ⟨r, p⟩, rfl⟩ := getLast_snoc hq0
    obtain ⟨m, hm⟩ : ∃ m, qs0.length = m := ⟨_, rfl⟩
    have h1 := hP.own
    have h2 : (qs0 ++ [(r, p)]).length = m + 1 := by simp [hm]
    rw [h2] at h1
    obtain ⟨g, cap, hv⟩ := ownsRow_succ h1
    obtain ⟨N, hN⟩ : ∃ N, m + 1 = N := ⟨_, rfl⟩
    rw [hN] at hv h1
    subst hv
    have hmx : m < maxLen := by have := hq; unfold maxLen; rw [h2] at this; omega
    have hLa := Lib.hid (pileLastP_any g m N cap wr w.heap.size hmx hN hP.box)
    obtain ⟨x2, x3⟩ := last_cells hm hN h1
    have hnp := neq_ptr
    have hglt := (h1.lt g rfl).2
    by_cases hp : p.1 = true
    · have hno : Hid (∀ q, ((qs0 ++ [(r, p)]).map fun q => q.2).getLast? = some q → q.1 = true) := Lib.hid (fun q h => by simp at h; rw [← h]; exact hp)
      have hok : Hid (∀ q, wr.drewN q = wr ∨ ∃ q', wr.drewN q = wr.drewN q') := Lib.hid (fun q => .inr ⟨q, rfl⟩)
      rw [hp] at x2
      clear h1 h2 hP hA hq0 hp hm hN hmx hsm hq
      go_enter Tryz.func52, Tryz.ntmps52
      go_wp2_with (first
        | (go_at_call 51; refine hLa.out.mono ?_; rintro e w1 ⟨rfl, q, rfl⟩)
        | (go_at_call 54; refine (hTx.out _ (hok.out q)).mono ?_; rintro e w2 ⟨A3, c3, rfl, hT3⟩; have hQ := Lib.hid (hput.out _ w2 A3 c3 (hok.out q) hT3); have hT3h := Lib.hid hT3; clear hT3)
        | (go_at_call 53; refine hQ.out.mono ?_; rintro e w3 ⟨rfl, v', w4, rfl, h1, h2, h3⟩; have hfin := Lib.hid (hnew.out _ _ w4 _ _ v' (hok.out q) hno.out hT3h.out h1 h2 h3); clear h1 h2 h3))
      go_end0
      exact ⟨rfl, hfin.out⟩
    · have hpf : p.1 = false := by cases h : p.1; rfl; exact absurd h hp
      obtain ⟨l1, l2, l3, l4⟩ := hP.last m (r, p) (by rw [← hm]; simp) h2.symm hpf
      dsimp only at l1 l2 l3 l4
      obtain ⟨Au, cu, hu, hu1, hu2, hu3⟩ := own_slice l4
      obtain ⟨i0, hi, hzz⟩ := Option.map_eq_some_iff.1 infoStr
      simp only [Prod.mk.injEq] at hzz
      obtain ⟨hz0, hz1, hz2⟩ := hzz
      have hll := hA.len
      have hle : Hid (p.2.1.length + n ≤ maxLen ∧ (p.2.1.length + n) * 16 ≤ 140737488355328) := Lib.hid (by have h8 : p.2.1.length ≤ 1000000 := hsm (r, p) (by simp); unfold maxLen; exact ⟨by omega, by omega⟩)
      have hown : Hid (∀ q, (wr.drewN q).ownsRow w.heap.size 9 1 u p.2.1.length (p.2.1.map fun s => .string (str s)) ∧ w.heap.size ≤ (wr.drewN q).heap.size ∧ Strs (wr.drewN q) w.heap.size A n ys) := Lib.hid (fun q => ⟨l4, hP.below.size, hA.drewN q⟩)
      have hext : Hid (∀ (q : Nat) (w2 : World) (A2 : Option Addr) (m2 c2 : Nat), w2.ownsRow w.heap.size 9 1 (.slice A2 m2 c2) (p.2.1.length + n) ((p.2.1.map fun s => .string (str s)) ++ ys.map fun s => .string (str s)) → (wr.drewN q).grownBy w2 u.ownBlock → ((Value.slice A2 m2 c2).ownBlock = u.ownBlock ∨ (Value.slice A2 m2 c2).ownBlock = some (wr.drewN q).heap.size) →
          w2.cell? ⟨g, m * 4 + 1, none⟩ = some (slcV r.1) ∧ w2.frozen? ⟨g, m * 4 + 1, none⟩ = false ∧ ∃ v' qs' u', NorS w (w2.setCell ⟨g, m * 4 + 1, none⟩ (.slice A2 m2 c2)) v' qs' u' ∧ (qs'.map fun q => q.2) = zs) := Lib.hid (fun q w2 A2 m2 c2 h3 h4 h5 => by
        obtain ⟨k1, k2⟩ := (hPh.out.up (w1 := wr.drewN q) ⟨rfl, rfl, rfl, Nat.le_refl _, fun _ _ => rfl⟩).ext (by omega) hpf (by rw [hll]; exact h3) h4 h5
        rw [hm] at k2
        refine ⟨(last_cells hm hN k1).2, k1.frozenAt _, _, _, _, k2, ?_⟩
        rw [← hzsh.out, List.map_append, List.map_append]
        show _ ++ [tPc (p.2.1 ++ ys)] = pushT (_ ++ [p]) ys
        rw [l3]
        exact (pushT_old _ _ _ _ _).symm)
      obtain ⟨nu, hnu⟩ : ∃ nu, p.2.1.length = nu := ⟨_, rfl⟩
      rw [l1, hu, hnu] at x3
      rw [hu, hnu] at hown
      rw [hu] at hext
      rw [hpf] at x2
      rw [hnu] at hle hext
      clear h1 h2 hP hA hq0 hp hm hN hmx hsm hq l1 l2 l3 l4 hu hu1 hu2 hu3 hpf hll hnew hput hTx hPh hnu
      go_enter Tryz.func52, Tryz.ntmps52
      go_wp2_with (first
        | (go_at_call 51; refine hLa.out.mono ?_; rintro e w1 ⟨rfl, q, rfl⟩)
        | (at_builtin; refine wpList_append_readsL _ rfl _ _ 22 rfl w.heap.size 9 i0 (.string ByteArray.empty) 16 Tryz.underlying22 hi hz0 hz1 hz2 rfl (.slice Au nu cu) nu _ rfl (hown.out q).1 w.heap.size A n c _ rfl (hown.out q).2.2 (strs_one _) hle.out.1 hle.out.2 (hown.out q).2.1 ?_; intro v' w2 hown2 hg2 hloc2; obtain ⟨A2, c2, rfl, -, -, -⟩ := own_slice hown2; obtain ⟨y1, y2, y3⟩ := hext.out q w2 A2 _ c2 hown2 hg2 hloc2; have hfin := Lib.hid y3; clear y3 hown2 hg2 hloc2 x2 x3))
      refine bodyPost_ret (results_none rfl _ _ _) rfl ?_
      exact ⟨rfl, hfin.out⟩

set_option maxRecDepth 100000 in
set_option maxHeartbeats 8000000 in
theorem normal_new (A : Option Addr) (n c : Nat) (vs : List PcV) (ps : List Pc) (w : World) (hnc : n ≤ c) (hcm : c ≤ maxLen) (hn : n ≤ 10000) (hsum : sumT ps ≤ 1000000) (hsm : smallN ps) (hA : Pcs w w.heap.size A n vs ps) :
    Calls Tryz.prog 32 #[.slice A n c] w fun e w' => PcsNew w w' e (normal ps) := by
  have hl := hA.len
  have hAh := Lib.hid hA
  have hlh := Lib.hid hl
  have hsumh := Lib.hid hsum
  have hsmh := Lib.hid hsm
  have hst := Lib.hid (NorS.start w)
  clear hA hsum hsm hl
  go_enter Tryz.func32, Tryz.ntmps32
  go_wp2
  go_loopw [7, 12] (fun _ s12 wr => ∃ (i : Nat) (v u : Value) (qs : List (PcV × Pc)), i ≤ n ∧ s12 = .int .i64 i ∧ Hid (NorS w wr v qs u) ∧ Hid ((qs.map fun q => q.2) = normal (ps.take i))) (fun _ s12 _ => n - (intOf s12).toNat)
  case atStart => exact ⟨0, _, _, [], Nat.zero_le _, rfl, hst, Lib.hid rfl⟩
  case round =>
    obtain ⟨i, v, u, qs, hin, rfl, hP, hN⟩ := hrel
    obtain ⟨wo, rfl⟩ : ∃ wo : World, wo = wr := ⟨_, rfl⟩
    clear hst
    have hql : qs.length ≤ i := by
      have h1 := congrArg List.length hN.out
      rw [List.length_map] at h1
      have h2 := len_normal (ps.take i)
      have h3 : (ps.take i).length ≤ i := List.length_take_le _ _
      omega
    by_cases hlt : i < n
    · obtain ⟨b, o, cf, At, nt, ct, Ab, nb, cb, As, ns, cs, t, bs, ss, rfl, hb, hv, hp, k1, k2, k3, k4, ⟨j1, j2, j3⟩⟩ := (hAh.out.below hP.out.below).at_ (k := i) hlt
      have i1 : (0 : Int) ≤ (i : Int) := by omega
      have i2 : (i : Int) < (n : Int) := by omega
      have hsz := hP.out.below.size
      have hb2 : b < wo.heap.size := by omega
      have hfl := hP.out.fn.lt
      have hstep := Lib.hid (normal_take hp)
      obtain ⟨Wp, hWp⟩ : ∃ Wp, Wp = wo.alloc (pcObj cf ((At, nt, ct), (Ab, nb, cb), (As, ns, cs))) := ⟨_, rfl⟩
      have hbp : Below wo.heap.size wo Wp := by rw [hWp]; exact (Below.refl _ _).alloc (Nat.le_refl _) _
      have hPp := Lib.hid (hP.out.up hbp)
      cases cf
      · have hlt2 : t.length = nt := j1.2.2.len
        by_cases h0 : nt = 0
        · subst h0
          have hte : t = [] := List.eq_nil_of_length_eq_zero hlt2
          have hst2 : Hid (normal (ps.take (i + 1)) = normal (ps.take i)) := Lib.hid (by rw [hstep.out, hte]; rfl)
          have hWph := Lib.hid hWp
          clear hp hv j1 j2 j3 hbp hWp hstep hte hlt2
          go_wp2
          go_roundw
          case rel => exact ⟨i + 1, v, u, qs, by omega, by go_num, Lib.hid (by have := hPp.out; rw [hWph.out] at this; exact this), Lib.hid (by rw [hst2.out]; exact hN.out)⟩
          case measure => simp [intOf]; omega
        · have hte : t ≠ [] := by rintro rfl; simp at hlt2; omega
          have h1 : (0 : Int) < (nt : Int) := by omega
          have h2 : decide ((0 : Int) < (nt : Int)) = true := by simpa using h1
          have hst2 : Hid (normal (ps.take (i + 1)) = pushT (normal (ps.take i)) t) := Lib.hid (by rw [hstep.out, push_text _ _ _ hte])
          have hntl : nt ≤ 1000000 := by
            have h3 := sumT_mem (List.mem_of_getElem? hp)
            dsimp only at h3
            have h4 := hsumh.out
            omega
          have hQ := Lib.hid (norText_any At nt ct v u qs t w Wp hPp.out (by omega) hntl (j1.2.2.keep fun q hq => hbp.cell (by omega)) (fun q hq => by
            have h3 : q.2 ∈ normal (ps.take i) := by rw [← hN.out]; exact List.mem_map_of_mem hq
            have h4 := sumT_mem h3
            have h5 := sumT_normal (ps.take i)
            have h6 := sumT_take ps i
            have h7 := hsumh.out
            exact Nat.le_trans h4 (by omega)))
          have hWph := Lib.hid hWp
          rw [hWp] at hQ
          clear hp hv j1 j2 j3 hbp hWp hstep hte hlt2 hntl
          go_wp2_with (go_at_call 52; refine hQ.out.mono ?_; rintro e w1 ⟨rfl, v1, qs1, u1, hP1, hq1⟩; have hP1h := Lib.hid hP1; have hq1h := Lib.hid hq1; clear hP1 hq1)
          go_roundw
          case rel => exact ⟨i + 1, v1, u1, qs1, by omega, by go_num, hP1h, Lib.hid (by rw [hst2.out, ← hN.out]; exact hq1h.out)⟩
          case measure => simp [intOf]; omega
      · have hst2 : Hid (normal (ps.take (i + 1)) = normal (ps.take i) ++ [cPc bs ss]) := Lib.hid (by rw [hstep.out]; rfl)
        have hsmp : ss.length ≤ 1000 ∧ ∀ d ∈ bs :: ss, d.length ≤ 1000000 := hsmh.out _ (List.mem_of_getElem? hp)
        have hnsl : ns ≤ 1000 := by obtain ⟨_, _, rr, h5⟩ := j3; have := h5.len; dsimp only at this; omega
        have hC : Hid (Calls Tryz.prog 55 #[.slice Ab nb cb, .slice As ns cs] Wp fun e w' => ConfOut Wp w' e bs ss) := Lib.hid (by
          obtain ⟨_, _, rr, h5⟩ := j3
          exact conflict_any Ab nb cb bs As ns cs rr ss Wp hnsl hsmp.2 ((j2.more hsz).up hbp) ((h5.more hsz).up hbp))
        have hput : Hid (∀ (w1 : World) (r : PcV), Below Wp.heap.size Wp w1 → Calls Tryz.prog 53 #[.pointer (some ⟨w.heap.size, 0, none⟩), .slice (some ⟨w1.heap.size, 0, none⟩) 1 1] (w1.alloc (pcObj true r)) fun e w' => e = .returned (.tuple #[]) ∧ ∃ v' w2, w' = w2.setCell ⟨w.heap.size, 0, none⟩ v' ∧
            w2.ownsRow w.heap.size 44 4 v' (qs.length + 1) (pcCs qs ++ pcC true r) ∧ (w1.alloc (pcObj true r)).grownBy w2 v.ownBlock ∧ (v'.ownBlock = v.ownBlock ∨ v'.ownBlock = some (w1.alloc (pcObj true r)).heap.size)) := Lib.hid (fun w1 r hb1 => by
          have hP1 := (hPp.out.up hb1).up ((Below.refl _ w1).alloc (Nat.le_refl _) (pcObj true r))
          exact pilePutP_any w.heap.size w.heap.size qs.length w1.heap.size v (pcCs qs) true r _ (by omega) hP1.box hP1.own hP1.below.size (one_a _ _))
        have hnew : Hid (∀ (w1 w2 : World) (r : PcV) (v' : Value), Below Wp.heap.size Wp w1 → (∀ w3, But (fun k => k < Wp.heap.size) w1 w3 → PcR w3 w3.heap.size r (cPc bs ss)) → w2.ownsRow w.heap.size 44 4 v' (qs.length + 1) (pcCs qs ++ pcC true r) → (w1.alloc (pcObj true r)).grownBy w2 v.ownBlock → (v'.ownBlock = v.ownBlock ∨ v'.ownBlock = some (w1.alloc (pcObj true r)).heap.size) →
            NorS w (w2.setCell ⟨w.heap.size, 0, none⟩ v') v' (qs ++ [(r, cPc bs ss)]) (.slice none 0 0)) := Lib.hid (fun w1 w2 r v' hb1 hPc h1 h2 h3 =>
          hPp.out.put (p := cPc bs ss) (hb1.alloc hb1.size _) (fun _ w3 h4 => hPc w3 ((But.alloc w1 _).trans h4 fun k e => .inl e)) h1 h2 h3 (fun h => by cases h) (fun _ => rfl))
        have hWph := Lib.hid hWp
        rw [hWp] at hC hput hnew
        clear hp hv j1 j2 j3 hbp hWp hstep hsmp hnsl
        go_wp2_with (first
          | (go_at_call 55; refine hC.out.mono ?_; rintro e w1 ⟨Ab1, nb1, cb1, As1, ns1, cs1, rfl, hPc, hb1⟩; have hQ := Lib.hid (hput.out w1 ((none, 0, 0), (Ab1, nb1, cb1), (As1, ns1, cs1)) hb1); have hPch := Lib.hid (And.intro hb1 hPc); clear hPc hb1)
          | (go_at_call 53; refine hQ.out.mono ?_; rintro e w3 ⟨rfl, v', w2, rfl, h1, h2, h3⟩; have hfin := Lib.hid (hnew.out _ _ _ _ hPch.out.1 hPch.out.2 h1 h2 h3); clear h1 h2 h3))
        go_roundw
        case rel => exact ⟨i + 1, v', _, _, by omega, by go_num, hfin, Lib.hid (by rw [hst2.out, ← hN.out, List.map_append]; rfl)⟩
        case measure => simp [intOf]; omega
    · obtain rfl : i = n := by omega
      have ht : Hid (ps.take i = ps) := Lib.hid (List.take_of_length_le (by rw [hlh.out]; exact Nat.le_refl _))
      have x0 := hP.out.box.cell
      have hout := Lib.hid hP.out.fresh
      go_wp2
      go_ret
      have h1 := hout.out
      rw [hN.out, ht.out] at h1
      exact h1
theorem normal_ok : PickNormalOk := fun A n c vs ps w h1 h2 h3 h4 h5 h6 => (normal_new A n c vs ps w h1 h2 h3 h4 h5 h6).mono fun e w' h => h.out
end Go.Proofs.YtoephlkfejcadaaGreat
