/- Proved here: texts joined: PkNm. -/
import Derived.Test.YtcjmmidnfjifaaaGreatDoorBm21
import Derived.Test.YtcjmmidnfjifaaaGreatDoorBm30
/- Proved here: the contract of the landed pick.Normal. -/
namespace Go.Proofs.YtcjmmidnfjifaaaGreatDoor
open Go.RowKit
set_option linter.unusedVariables false

/-- The blocks that the pile of pieces turns: its own, that of the pieces, that of the last one's text; and all that were there. -/
def FP (w : World) (v u : Value) (k : Nat) : Prop := k ≤ w.heap.size ∨ v.ownBlock = some k ∨ u.ownBlock = some k
/-- The pile of pieces. -/
structure NorS (w wr : World) (v : Value) (qs : List (PcV × Pc)) (u : Value) : Prop where
  box : Boxed wr w.heap.size 76 v
  fn : Boxed wr (w.heap.size + 1) 77 (.func (.func 63) #[.pointer (some ⟨w.heap.size, 0, none⟩)] #[])
  own : wr.ownsRow w.heap.size 36 4 v qs.length (pcCs qs)
  below : Below w.heap.size w wr
  row : ∀ (k : Nat) (q : PcV × Pc), qs[k]? = some q → (k + 1 < qs.length ∨ q.2.1 = true) → ∀ w2, But (FP w v u) wr w2 → PcR w2 w2.heap.size q.1 q.2
  last : ∀ (k : Nat) (q : PcV × Pc), qs[k]? = some q → k + 1 = qs.length → q.2.1 = false → slcV q.1.1 = u ∧ q.1.2 = ((none, 0, 0), (none, 0, 0)) ∧ q.2 = tPc q.2.2.1 ∧ wr.ownsRow w.heap.size 9 1 u q.2.2.1.length (q.2.2.1.map fun s => .string (str s))
section
variable {w wr w1 w2 : World} {v v' u u' : Value} {qs : List (PcV × Pc)} {r : PcV} {p : Pc}
theorem NorS.start (w : World) : NorS w ((w.alloc (.cells #[.slice none 0 0] 76)).alloc (.cells #[.func (.func 63) #[.pointer (some ⟨w.heap.size, 0, none⟩)] #[]] 77)) (.slice none 0 0) [] (.slice none 0 0) := by
  have h := two_a w (.cells #[.slice none 0 0] 76) (.cells #[.func (.func 63) #[.pointer (some ⟨w.heap.size, 0, none⟩)] #[]] 77)
  exact ⟨h.1, h.2, World.ownsRow_nil _ _ _ _, ((Below.refl _ w).alloc (Nat.le_refl _) _).alloc (by simp) _, fun k q h => by simp at h, fun k q h => by simp at h⟩
theorem NorS.up (h : NorS w wr v qs u) (hb : Below wr.heap.size wr w1) : NorS w w1 v qs u :=
  ⟨(hb.block _ h.box.lt).trans h.box, (hb.block _ h.fn.lt).trans h.fn, ownsRow_kept h.own fun k e => hb.block k (h.own.lt k e).2, h.below.trans (hb.mono h.below.size),
    fun k q a b w2 h2 => h.row k q a b w2 ((But.of_below hb fun k hk _ => hk).trans h2 fun k e => .inl e),
    fun k q a b c => by
      obtain ⟨h1, h2, h3, h4⟩ := h.last k q a b c
      exact ⟨h1, h2, h3, ownsRow_kept h4 fun k e => hb.block k (h4.lt k e).2⟩⟩
/-- The last text's row is not that of the pieces. -/
theorem rows_apart {w : World} {b1 b2 n m s1 s2 : Nat} {e1 e2 : TypeId} {v u : Value} {xs ys : List Value} (h : w.ownsRow b1 e1 s1 v n xs) (k : w.ownsRow b2 e2 s2 u m ys) (hne : e1 ≠ e2) : ∀ j, v.ownBlock = some j → u.ownBlock ≠ some j := by
  intro j hj e
  rcases h.2 with ⟨rfl, _⟩ | ⟨g, cap, cur, rfl, _, hg, _⟩
  · simp [Value.ownBlock] at hj
  · rcases k.2 with ⟨rfl, _⟩ | ⟨g', cap', cur', rfl, _, hg', _⟩
    · simp [Value.ownBlock] at e
    · simp only [Value.ownBlock, Option.some.injEq] at e hj
      rw [e, ← hj, hg] at hg'
      injection hg' with hg'
      simp at hg'
      exact hne hg'.2
theorem text_row {b : Nat} {q : PcV × Pc} (l1 : slcV q.1.1 = u) (l2 : q.1.2 = ((none, 0, 0), (none, 0, 0))) (l3 : q.2 = tPc q.2.2.1) (hk : w1.ownsRow b 9 1 u q.2.2.1.length (q.2.2.1.map fun s => .string (str s))) : PcR w1 w1.heap.size q.1 q.2 := by
  obtain ⟨A', c', e', r1, r2, r3⟩ := own_slice hk
  obtain ⟨⟨⟨A, n, c⟩, qr⟩, qp⟩ := q
  dsimp only at l1 l2 l3 e' r1 r2 r3 ⊢
  subst l2
  rw [← l1] at e'
  injection e' with e1 e2 e3
  dsimp only at e1 e2 e3
  subst e1
  subst e2
  subst e3
  rw [l3]
  exact PcR.text ⟨r1, r2, r3⟩
theorem NorS.put {W1 : World} (h : NorS w wr v qs u) (hb : Below wr.heap.size wr W1) (hnew : p.1 = true → ∀ w3, But (fun k => k < wr.heap.size) W1 w3 → PcR w3 w3.heap.size r p)
    (hown : w2.ownsRow w.heap.size 36 4 v' (qs.length + 1) (pcCs qs ++ pcC p.1 r)) (hg : W1.grownBy w2 v.ownBlock) (hloc : v'.ownBlock = v.ownBlock ∨ v'.ownBlock = some W1.heap.size)
    (hu : p.1 = false → slcV r.1 = u' ∧ r.2 = ((none, 0, 0), (none, 0, 0)) ∧ p = tPc p.2.1 ∧ W1.ownsRow wr.heap.size 9 1 u' p.2.1.length (p.2.1.map fun s => .string (str s)))
    (hc : p.1 = true → u' = .slice none 0 0) : NorS w (w2.setCell ⟨w.heap.size, 0, none⟩ v') v' (qs ++ [(r, p)]) u' := by
  have hL := h.box.lt
  have hs1 := hb.size
  have hs0 := h.below.size
  have hvl : ∀ k, v.ownBlock = some k → k ≠ w.heap.size := fun k e h1 => Boxed.not_row h.box (by decide) h.own (by rw [e, h1])
  have hvf : ∀ k, v.ownBlock = some k → k ≠ w.heap.size + 1 := fun k e h1 => Boxed.not_row h.fn (by decide) h.own (by rw [e, h1])
  have hbS : But (fun k => k = w.heap.size) w2 (w2.setCell ⟨w.heap.size, 0, none⟩ v') := But.setCell (F := fun k => k = w.heap.size) w2 (p := ⟨w.heap.size, 0, none⟩) rfl _
  have hb12 : But (fun k => v.ownBlock = some k) W1 w2 := But.of_grown hg fun k e => e
  have hb02 : But (fun k => v.ownBlock = some k) wr w2 := (But.of_below (F := fun k => v.ownBlock = some k) hb fun k hk _ => hk).trans hb12 fun k e => .inl e
  have hb0S : But (fun k => k = w.heap.size ∨ v.ownBlock = some k) wr (w2.setCell ⟨w.heap.size, 0, none⟩ v') := (hb02.more (F' := fun k => k = w.heap.size ∨ v.ownBlock = some k) fun k e => .inr e).trans hbS fun k e => .inl (.inl e)
  have hbox2 : Boxed w2 w.heap.size 76 v := (hb02.block _ hL fun e => hvl _ e rfl).trans h.box
  have hv' : ∀ k, v'.ownBlock = some k → v.ownBlock = some k ∨ W1.heap.size ≤ k := fun k e => by
    rcases hloc with h1 | h1
    · exact .inl (h1.symm.trans e)
    · rw [h1] at e
      injection e with e
      exact .inr (Nat.le_of_eq e)
  have hv'L : ∀ k, v'.ownBlock = some k → k ≠ w.heap.size := fun k e h1 => Boxed.not_row hbox2 (by decide) hown (by rw [e, h1])
  have huW : ∀ k, u'.ownBlock = some k → wr.heap.size ≤ k ∧ k < W1.heap.size := fun k e => by
    cases hp : p.1
    · exact (hu hp).2.2.2.lt k e
    · rw [hc hp] at e
      simp [Value.ownBlock] at e
  -- what becomes of a world behind this one, for what lay ahead
  have hall : ∀ w3, But (FP w v' u') (w2.setCell ⟨w.heap.size, 0, none⟩ v') w3 → But (fun k => k ≤ w.heap.size ∨ v.ownBlock = some k) wr w3 := fun w3 h3 => (hb0S.more (F' := fun k => k ≤ w.heap.size ∨ v.ownBlock = some k) fun k e => Or.elim e (fun e => .inl (Nat.le_of_eq e)) .inr).trans h3 fun k e => by
    rcases e with e | e | e
    · exact .inl (.inl e)
    · rcases hv' k e with h1 | h1
      · exact .inl (.inr h1)
      · exact .inr (by omega)
    · exact .inr (huW k e).1
  refine ⟨hbox2.set _, (hb0S.block _ h.fn.lt (fun e => Or.elim e (fun e => by omega) fun e => hvf _ e rfl)).trans h.fn, ?_, h.below.trans (hb0S.below hs0 (fun k e => Or.elim e (fun e => Nat.le_of_eq e.symm) fun e => (h.own.lt k e).1)), fun k q a b w3 h3 => ?_, fun k q a b c => ?_⟩
  · rw [List.length_append, pcCs_snoc]
    exact ownsRow_kept hown fun k e => hbS.block k (hown.lt k e).2 (hv'L k e)
  · rcases Nat.lt_or_ge k qs.length with hk | hk
    · rw [List.getElem?_append_left hk] at a
      by_cases hq : k + 1 < qs.length ∨ q.2.1 = true
      · exact h.row k q a hq w3 ((hall w3 h3).more fun k e => Or.elim e (fun e => .inl e) fun e => .inr (.inl e))
      · have hk1 : k + 1 = qs.length := by omega
        have hqf : q.2.1 = false := by cases hqq : q.2.1; rfl; exact absurd (.inr hqq) hq
        obtain ⟨l1, l2, l3, l4⟩ := h.last k q a hk1 hqf
        have hk3 := ownsRow_kept l4 (w' := w3) fun j e => (hall w3 h3).block j (l4.lt j e).2 (by
          rintro (h1 | h1)
          · exact Boxed.not_row h.box (by decide) l4 (by rw [e, Nat.le_antisymm h1 (l4.lt j e).1])
          · exact rows_apart h.own l4 (by decide) j h1 e)
        exact text_row l1 l2 l3 hk3
    · rw [List.getElem?_append_right hk] at a
      have hk0 : k = qs.length := by
        have := (List.getElem?_eq_some_iff.1 a).1
        simp at this
        omega
      subst hk0
      simp at a
      subst a
      have hp : p.1 = true := by
        rcases b with b | b
        · simp at b
        · exact b
      have hun := hc hp
      refine hnew hp w3 (((hb12.more (F' := fun k => k < wr.heap.size) fun k e => (h.own.lt k e).2).trans hbS fun k (e : k = w.heap.size) => .inl (by omega)).trans h3 fun k e => ?_)
      rcases e with e | e | e
      · exact .inl (by omega)
      · rcases hv' k e with h1 | h1
        · exact .inl (h.own.lt k h1).2
        · exact .inr h1
      · rw [hun] at e
        simp [Value.ownBlock] at e
  · have hk : qs.length ≤ k := by simp at b; omega
    rw [List.getElem?_append_right hk] at a
    have hk0 : k = qs.length := by
      have := (List.getElem?_eq_some_iff.1 a).1
      simp at this
      omega
    subst hk0
    simp at a
    subst a
    obtain ⟨l1, l2, l3, l4⟩ := hu c
    refine ⟨l1, l2, l3, ownsRow_low (ownsRow_kept l4 fun j e => ?_) hs0⟩
    have h5 := l4.lt j e
    exact (hbS.block j (by have := hg.size; omega) (by omega)).trans (hb12.block j h5.2 fun e2 => by have := (h.own.lt j e2).2; omega)
/-- A text more behind the last one. -/
theorem NorS.ext {g n cap : Nat} {A : Option Addr} {m c : Nat} {qs0 : List (PcV × Pc)} {ys : Txs} (h : NorS w wr (.slice (some ⟨g, 0, none⟩) n cap) (qs0 ++ [(r, p)]) u) (hn : qs0.length + 1 = n) (hp : p.1 = false)
    (hown : w2.ownsRow w.heap.size 9 1 (.slice A m c) (p.2.1.length + ys.length) ((p.2.1.map fun s => .string (str s)) ++ ys.map fun s => .string (str s))) (hg : wr.grownBy w2 u.ownBlock) (hloc : (Value.slice A m c).ownBlock = u.ownBlock ∨ (Value.slice A m c).ownBlock = some wr.heap.size) :
    w2.ownsRow w.heap.size 36 4 (.slice (some ⟨g, 0, none⟩) n cap) n (pcCs (qs0 ++ [(r, p)])) ∧ NorS w (w2.setCell ⟨g, qs0.length * 4 + 1, none⟩ (.slice A m c)) (.slice (some ⟨g, 0, none⟩) n cap) (qs0 ++ [(((A, m, c), (none, 0, 0), (none, 0, 0)), tPc (p.2.1 ++ ys))]) (.slice A m c) := by
  have hlen : (qs0 ++ [(r, p)]).length = n := by simp; omega
  obtain ⟨l1, l2, l3, l4⟩ := h.last qs0.length (r, p) (by simp) (by simp) hp
  dsimp only at l1 l2 l3 l4
  have hgn : u.ownBlock ≠ some g := rows_apart h.own l4 (by decide) g rfl
  have how : w2.ownsRow w.heap.size 36 4 (.slice (some ⟨g, 0, none⟩) n cap) n (pcCs (qs0 ++ [(r, p)])) := by
    have := h.own
    rw [hlen] at this
    exact this.kept hg (.inr fun e => hgn e.symm)
  refine ⟨how, ?_⟩
  obtain ⟨s1, s2⟩ := how.stored (qs0.length * 4 + 1) (.slice A m c)
  have hgl : (g : Nat) ≠ w.heap.size := fun e => Boxed.not_row h.box (by decide) h.own (by rw [← e]; rfl)
  have hgf : (g : Nat) ≠ w.heap.size + 1 := fun e => Boxed.not_row h.fn (by decide) h.own (by rw [← e]; rfl)
  have hul : ∀ k, u.ownBlock = some k → k ≠ w.heap.size := fun k e h1 => Boxed.not_row h.box (by decide) l4 (by rw [e, h1])
  have huf : ∀ k, u.ownBlock = some k → k ≠ w.heap.size + 1 := fun k e h1 => Boxed.not_row h.fn (by decide) l4 (by rw [e, h1])
  have hb2 : But (fun k => u.ownBlock = some k) wr w2 := But.of_grown hg fun k e => e
  have hbS : But (fun k => k = g) w2 (w2.setCell ⟨g, qs0.length * 4 + 1, none⟩ (.slice A m c)) := But.setCell (F := fun k => k = g) w2 (p := ⟨g, qs0.length * 4 + 1, none⟩) rfl _
  have hb0b : But (fun k => k = g ∨ u.ownBlock = some k) wr (w2.setCell ⟨g, qs0.length * 4 + 1, none⟩ (.slice A m c)) := (hb2.more (F' := fun k => k = g ∨ u.ownBlock = some k) fun k e => .inr e).trans hbS fun k e => .inl (.inl e)
  have hb0 : But (FP w (.slice (some ⟨g, 0, none⟩) n cap) u) wr (w2.setCell ⟨g, qs0.length * 4 + 1, none⟩ (.slice A m c)) := hb0b.more fun k e => Or.elim e (fun e => .inr (.inl (by rw [e]; rfl))) fun e => .inr (.inr e)
  have hcells : (pcCs (qs0 ++ [(r, p)])).set (qs0.length * 4 + 1) (.slice A m c) = pcCs (qs0 ++ [(((A, m, c), (none, 0, 0), (none, 0, 0)), tPc (p.2.1 ++ ys))]) := by
    rw [pcCs_snoc, pcCs_snoc, List.set_append_right _ _ (by rw [pcCs_len]; omega), pcCs_len, show qs0.length * 4 + 1 - qs0.length * 4 = 1 by omega]
    congr 1
    obtain ⟨r1, r2⟩ := r
    dsimp only at l2
    subst l2
    show [Value.bool p.1, .slice A m c, slcV (none, 0, 0), slcV (none, 0, 0)] = [Value.bool false, .slice A m c, slcV (none, 0, 0), slcV (none, 0, 0)]
    rw [hp]
  have hx1 : g ≠ (w2.heap.size) := fun e => by have := (how.lt g rfl).2; omega
  refine ⟨(hbS.block _ (Nat.lt_of_lt_of_le h.box.lt hb2.size) (fun e => hgl e.symm)).trans ((hb2.block _ h.box.lt fun e => hul _ e rfl).trans h.box), (hbS.block _ (Nat.lt_of_lt_of_le h.fn.lt hb2.size) (fun e => hgf e.symm)).trans ((hb2.block _ h.fn.lt fun e => huf _ e rfl).trans h.fn), ?_,
    h.below.trans (hb0b.below h.below.size (fun k e => Or.elim e (fun e => (h.own.lt k (by rw [e]; rfl)).1) fun e => (l4.lt k e).1)), fun k q a b w3 h3 => ?_, fun k q a b c' => ?_⟩
  · rw [← hcells, List.length_append, List.length_singleton, hn]
    exact s1
  · have hk : k < qs0.length := by
      rcases b with b | b
      · simp at b; omega
      · have h7 := (List.getElem?_eq_some_iff.1 a).1
        simp at h7
        rcases Nat.lt_or_ge k qs0.length with h8 | h8
        · exact h8
        · have : k = qs0.length := by omega
          subst this
          simp at a
          subst a
          cases b
    have a2 : (qs0 ++ [(r, p)])[k]? = some q := by
      rw [List.getElem?_append_left hk] at a ⊢
      exact a
    refine h.row k q a2 (.inl (by simp; omega)) w3 (hb0.trans h3 fun j e => ?_)
    rcases e with e | e | e
    · exact .inl (.inl e)
    · exact .inl (.inr (.inl e))
    · rcases hloc with h9 | h9
      · exact .inl (.inr (.inr (h9.symm.trans e)))
      · rw [h9] at e
        injection e with e
        exact .inr (Nat.le_of_eq e)
  · have hk : k = qs0.length := by simp at b; omega
    subst hk
    simp at a
    subst a
    refine ⟨rfl, rfl, rfl, ownsRow_kept (w := w2) ?_ fun j e => hbS.block j (hown.lt j e).2 fun e2 => ?_⟩
    · show w2.ownsRow w.heap.size 9 1 (.slice A m c) (p.2.1 ++ ys).length ((p.2.1 ++ ys).map fun s => .string (str s))
      rw [List.length_append, List.map_append]
      exact hown
    · exact rows_apart how hown (by decide) g rfl (by rw [e, e2])
end
end Go.Proofs.YtcjmmidnfjifaaaGreatDoor
