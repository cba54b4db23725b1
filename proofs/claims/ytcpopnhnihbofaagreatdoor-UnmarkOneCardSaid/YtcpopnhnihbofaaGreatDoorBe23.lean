/- Proved here: texts joined: Apart, UmRd. -/
import Derived.Test.YtcpopnhnihbofaaGreatDoorBe01
import Derived.Test.YtcpopnhnihbofaaGreatDoorBe13
import Derived.Test.YtcpopnhnihbofaaGreatDoorBe22
import Derived.Laws.OwnMore
/- Proved here, without conditions: rows, and boxes, of different types lie in different blocks. -/
namespace Go.Proofs.YtcpopnhnihbofaaGreatDoor
open Go.RowKit
set_option linter.unusedVariables false

/-- Two rows of different types. -/
theorem rows_apart {w : World} {b1 b2 n m s1 s2 : Nat} {e1 e2 : TypeId} {v u : Value} {xs ys : List Value} (h : w.ownsRow b1 e1 s1 v n xs) (k : w.ownsRow b2 e2 s2 u m ys) (hne : e1 ≠ e2) : ∀ j, v.ownBlock = some j → u.ownBlock ≠ some j := by
  intro j hj e
  rcases h.2 with ⟨rfl, _⟩ | ⟨g, cap, cur, rfl, _, hg, _⟩
  · simp [Value.ownBlock] at hj
  · rcases k.2 with ⟨rfl, _⟩ | ⟨g', cap', cur', rfl, _, hg', _⟩
    · simp [Value.ownBlock] at e
    · simp only [Value.ownBlock, Option.some.injEq] at e hj
      rw [e, ← hj, hg] at hg'
      injection hg' with hg'
      simp at hg'
      exact hne hg'.2
theorem cells_not_row {W : World} {L : Nat} {C : Array Value} {t e : TypeId} (h : W.heap[L]? = some (.cells C t (0, 0))) (hte : t ≠ e) {base size k : Nat} {v : Value} {xs : List Value} (hr : W.ownsRow base e size v k xs) : v.ownBlock ≠ some L := by
  rcases hr.2 with ⟨rfl, _⟩ | ⟨g, cap, cur, rfl, _, hgb, _⟩
  · simp [Value.ownBlock]
  · intro e'
    obtain rfl : g = L := by simpa [Value.ownBlock] using e'
    have := h.symm.trans hgb
    simp at this
    exact hte this.2
theorem box_ne {W : World} {a b : Nat} {C D : Array Value} {s t : TypeId} (h : W.heap[a]? = some (.cells C s (0, 0))) (k : W.heap[b]? = some (.cells D t (0, 0))) (hne : s ≠ t) : a ≠ b := by
  rintro rfl
  have := h.symm.trans k
  simp at this
  exact hne this.2
end Go.Proofs.YtcpopnhnihbofaaGreatDoor
/- Proved here: what the landed reader of marks holds: its block, the pieces, the parts of the conflict that is read, the texts of what was begun last; and what each of its operations leaves. -/
namespace Go.Proofs.YtcpopnhnihbofaaGreatDoor
open Go.RowKit
set_option linter.unusedVariables false
set_option maxRecDepth 100000

/-- The cells of the text that is open; the cell of the part that is. -/
def tC (tx : Bool) (u : Value) : List Value := if tx = true then [.bool false, u, .slice none 0 0, .slice none 0 0] else []
def cC (cf : Bool) (u : Value) : List Value := if cf = true then [u] else []
def nB (b : Bool) : Nat := if b = true then 1 else 0
/-- The blocks that the reader turns: its own, that of the pieces, that of the parts, that of what was begun last. -/
def FuR (L : Nat) (vp vq u : Value) (k : Nat) : Prop := k = L ∨ vp.ownBlock = some k ∨ vq.ownBlock = some k ∨ u.ownBlock = some k
/-- The reader in block L: what is finished (pieces qs, parts ps), and what was begun last (cur: a text, if tx; a part, if cf). -/
structure Rd (w wr : World) (L long : Nat) (st : Int) (nx vp vq u : Value) (qs : List (PcV × Pc)) (ps : List (Slc × Txs)) (tx cf : Bool) (cur : Txs) : Prop where
  at_ : wr.heap[L]? = some (.cells #[.int .i64 (long : Int), vp, vq, .int .i64 st, nx] 57 (0, 0))
  low : w.heap.size ≤ L
  below : Below w.heap.size w wr
  pown : wr.ownsRow w.heap.size 40 4 vp (qs.length + nB tx) (pcCs qs ++ tC tx u)
  qown : wr.ownsRow w.heap.size 25 1 vq (ps.length + nB cf) ((ps.map fun p => slcV p.1) ++ cC cf u)
  uown : wr.ownsRow w.heap.size 9 1 u cur.length (cur.map fun s => .string (str s))
  qrow : ∀ w2, But (FuR L vp vq u) wr w2 → ∀ q ∈ qs, PcR w2 w2.heap.size q.1 q.2
  prow : ∀ w2, But (FuR L vp vq u) wr w2 → ∀ p ∈ ps, TxR w2 w2.heap.size p.1 p.2

theorem cells5_set {W : World} {L : Nat} {a b c d e : Value} {t : TypeId} (v' : Value) (h : W.heap[L]? = some (.cells #[a, b, c, d, e] t (0, 0))) :
    (W.setCell ⟨L, 1, none⟩ v').heap[L]? = some (.cells #[a, v', c, d, e] t (0, 0)) ∧ (W.setCell ⟨L, 2, none⟩ v').heap[L]? = some (.cells #[a, b, v', d, e] t (0, 0)) ∧ (W.setCell ⟨L, 3, none⟩ v').heap[L]? = some (.cells #[a, b, c, v', e] t (0, 0)) ∧ (W.setCell ⟨L, 4, none⟩ v').heap[L]? = some (.cells #[a, b, c, d, v'] t (0, 0)) := by
  obtain ⟨hlt, hk⟩ := Array.getElem?_eq_some_iff.1 h
  refine ⟨?_, ?_, ?_, ?_⟩
  all_goals
    show (W.heap.modify L _)[L]? = _
    rw [Array.getElem?_eq_getElem (by rw [Array.size_modify]; exact hlt), Array.getElem_modify_self, hk]
    rfl
theorem But.setL {F : Nat → Prop} {W : World} {L : Nat} (hF : F L) (k : Nat) (v : Value) : But F W (W.setCell ⟨L, k, none⟩ v) := But.setCell (F := F) W (p := ⟨L, k, none⟩) hF v

section
variable {w wr w1 w2 w3 W1 : World} {L long : Nat} {st st' : Int} {nx nx' vp vp' vq vq' u u' : Value} {qs qs' : List (PcV × Pc)} {ps ps' : List (Slc × Txs)} {tx tx' cf cf' : Bool} {cur cur' : Txs} {o : Obj} {s : Tx} {G N cap : Nat}
theorem Rd.lt (h : Rd w wr L long st nx vp vq u qs ps tx cf cur) : L < wr.heap.size := (Array.getElem?_eq_some_iff.1 h.at_).1
theorem Rd.up (h : Rd w wr L long st nx vp vq u qs ps tx cf cur) (hb : Below wr.heap.size wr w1) : Rd w w1 L long st nx vp vq u qs ps tx cf cur :=
  ⟨(hb.block L h.lt).trans h.at_, h.low, h.below.trans (hb.mono h.below.size), ownsRow_kept h.pown fun k e => hb.block k (h.pown.lt k e).2, ownsRow_kept h.qown fun k e => hb.block k (h.qown.lt k e).2, ownsRow_kept h.uown fun k e => hb.block k (h.uown.lt k e).2,
    fun w2 h2 => h.qrow w2 ((But.of_below hb fun k hk _ => hk).trans h2 fun k e => .inl e), fun w2 h2 => h.prow w2 ((But.of_below hb fun k hk _ => hk).trans h2 fun k e => .inl e)⟩
theorem Rd.cells (h : Rd w wr L long st nx vp vq u qs ps tx cf cur) : wr.cell? ⟨L, 0, none⟩ = some (.int .i64 (long : Int)) ∧ wr.cell? ⟨L, 1, none⟩ = some vp ∧ wr.cell? ⟨L, 2, none⟩ = some vq ∧ wr.cell? ⟨L, 3, none⟩ = some (.int .i64 st) ∧ wr.cell? ⟨L, 4, none⟩ = some nx :=
  ⟨(cells_of h.at_ 0).trans rfl, (cells_of h.at_ 1).trans rfl, (cells_of h.at_ 2).trans rfl, (cells_of h.at_ 3).trans rfl, (cells_of h.at_ 4).trans rfl⟩
theorem Rd.free (h : Rd w wr L long st nx vp vq u qs ps tx cf cur) (k : Nat) : wr.frozen? ⟨L, k, none⟩ = false := unfrozen_of h.at_ k
theorem Rd.fu_low (h : Rd w wr L long st nx vp vq u qs ps tx cf cur) : ∀ k, FuR L vp vq u k → w.heap.size ≤ k ∧ k < wr.heap.size := by
  rintro k (rfl | e | e | e)
  · exact ⟨h.low, h.lt⟩
  · exact h.pown.lt k e
  · exact h.qown.lt k e
  · exact h.uown.lt k e
theorem Rd.pL (h : Rd w wr L long st nx vp vq u qs ps tx cf cur) : vp.ownBlock ≠ some L := cells_not_row h.at_ (by decide) h.pown
theorem Rd.qL (h : Rd w wr L long st nx vp vq u qs ps tx cf cur) : vq.ownBlock ≠ some L := cells_not_row h.at_ (by decide) h.qown
theorem Rd.uL (h : Rd w wr L long st nx vp vq u qs ps tx cf cur) : u.ownBlock ≠ some L := cells_not_row h.at_ (by decide) h.uown
theorem Rd.pq (h : Rd w wr L long st nx vp vq u qs ps tx cf cur) : ∀ k, vp.ownBlock = some k → vq.ownBlock ≠ some k := rows_apart h.pown h.qown (by decide)
theorem Rd.pu (h : Rd w wr L long st nx vp vq u qs ps tx cf cur) : ∀ k, vp.ownBlock = some k → u.ownBlock ≠ some k := rows_apart h.pown h.uown (by decide)
theorem Rd.qu (h : Rd w wr L long st nx vp vq u qs ps tx cf cur) : ∀ k, vq.ownBlock = some k → u.ownBlock ≠ some k := rows_apart h.qown h.uown (by decide)

/-- Whatever becomes of the reader's own blocks. -/
theorem Rd.step (h : Rd w wr L long st nx vp vq u qs ps tx cf cur) (hb : But (FuR L vp vq u) wr w3) (hF : ∀ k, FuR L vp' vq' u' k → FuR L vp vq u k ∨ wr.heap.size ≤ k)
    (hat : w3.heap[L]? = some (.cells #[.int .i64 (long : Int), vp', vq', .int .i64 st', nx'] 57 (0, 0)))
    (hp : w3.ownsRow w.heap.size 40 4 vp' (qs'.length + nB tx') (pcCs qs' ++ tC tx' u'))
    (hq : w3.ownsRow w.heap.size 25 1 vq' (ps'.length + nB cf') ((ps'.map fun p => slcV p.1) ++ cC cf' u'))
    (hu : w3.ownsRow w.heap.size 9 1 u' cur'.length (cur'.map fun s => .string (str s)))
    (hqs : ∀ q ∈ qs', q ∈ qs ∨ ∀ w2, But (FuR L vp' vq' u') w3 w2 → PcR w2 w2.heap.size q.1 q.2) (hps : ∀ p ∈ ps', p ∈ ps ∨ ∀ w2, But (FuR L vp' vq' u') w3 w2 → TxR w2 w2.heap.size p.1 p.2) :
    Rd w w3 L long st' nx' vp' vq' u' qs' ps' tx' cf' cur' :=
  ⟨hat, h.low, h.below.trans (hb.below h.below.size fun k e => (h.fu_low k e).1), hp, hq, hu,
    fun w2 h2 q hq => (hqs q hq).elim (fun hq => h.qrow w2 (hb.trans h2 hF) q hq) fun k => k w2 h2,
    fun w2 h2 p hp => (hps p hp).elim (fun hp => h.prow w2 (hb.trans h2 hF) p hp) fun k => k w2 h2⟩

/-- One line more of the part that was begun last. -/
theorem Rd.ext_conf (h : Rd w wr L long st nx vp (.slice (some ⟨G, 0, none⟩) N cap) u qs ps false true cur) (hN : ps.length + 1 = N)
    (hown : w2.ownsRow w.heap.size 9 1 u' (cur.length + 1) ((cur.map fun s => .string (str s)) ++ [.string (str s)])) (hg : (wr.alloc o).grownBy w2 u.ownBlock) (hloc : u'.ownBlock = u.ownBlock ∨ u'.ownBlock = some (wr.alloc o).heap.size) :
    w2.frozen? ⟨G, ps.length, none⟩ = false ∧ (∃ x, w2.cell? ⟨G, ps.length, none⟩ = some x) ∧ Rd w (w2.setCell ⟨G, ps.length, none⟩ u') L long st nx vp (.slice (some ⟨G, 0, none⟩) N cap) u' qs ps false true (cur ++ [s]) := by
  have hb2 : But (fun k => u.ownBlock = some k) wr w2 := (But.alloc wr o).trans (But.of_grown hg fun k e => e) fun k e => .inl e
  have e0 : (Value.slice (some ⟨G, 0, none⟩) N cap).ownBlock = some G := rfl
  have hq0 := h.qown
  have hN2 : ps.length + nB true = N := hN
  rw [hN2] at hq0
  have hq2 : w2.ownsRow w.heap.size 25 1 (.slice (some ⟨G, 0, none⟩) N cap) N ((ps.map fun p => slcV p.1) ++ [u]) := ownsRow_kept hq0 fun k e => hb2.block k (hq0.lt k e).2 (h.qu k e)
  have hbS : But (fun k => k = G) w2 (w2.setCell ⟨G, ps.length, none⟩ u') := But.setL (F := fun k => k = G) rfl _ _
  have hbA : But (fun k => k = G ∨ u.ownBlock = some k) wr (w2.setCell ⟨G, ps.length, none⟩ u') := (hb2.more (F' := fun k => k = G ∨ u.ownBlock = some k) fun k e => .inr e).trans hbS fun k e => .inl (.inl e)
  refine ⟨hq2.frozenAt _, ⟨u, ?_⟩, h.step (hbA.more fun k e => Or.elim e (fun e => .inr (.inr (.inl (by rw [e0, e])))) fun e => .inr (.inr (.inr e))) (fun k e => ?_) ?_ ?_ ?_ ?_ (fun q hq => .inl hq) fun p hp => .inl hp⟩
  · rw [hq2.cellAt _ (by omega), List.getElem?_append_right (by simp)]
    simp
  · rcases e with e | e | e | e
    · exact .inl (.inl e)
    · exact .inl (.inr (.inl e))
    · exact .inl (.inr (.inr (.inl e)))
    · rcases hloc with hl | hl
      · exact .inl (.inr (.inr (.inr (hl.symm.trans e))))
      · rw [hl] at e
        injection e with e
        exact .inr (by rw [← e]; simp)
  · exact (hbA.block L h.lt (by rintro (e | e); exact h.qL (by rw [e0, e]); exact h.uL e)).trans h.at_
  · exact ownsRow_kept h.pown fun k e => hbA.block k (h.pown.lt k e).2 (by rintro (e2 | e2); exact h.pq k e (by rw [e0, e2]); exact h.pu k e e2)
  · have := (hq2.stored ps.length u').1
    rw [List.set_append_right _ _ (by simp)] at this
    simp only [List.length_map, Nat.sub_self, List.set_cons_zero] at this
    rw [← hN2] at this
    rw [← hN2]
    exact this
  · rw [List.length_append, List.map_append]
    exact ownsRow_kept hown fun k e => hbS.block k (hown.lt k e).2 (by rintro rfl; exact rows_apart hq2 hown (by decide) k rfl e)
/-- One line more of the text that was begun last. -/
theorem Rd.ext_text (h : Rd w wr L long st nx (.slice (some ⟨G, 0, none⟩) N cap) vq u qs ps true false cur) (hN : qs.length + 1 = N)
    (hown : w2.ownsRow w.heap.size 9 1 u' (cur.length + 1) ((cur.map fun s => .string (str s)) ++ [.string (str s)])) (hg : (wr.alloc o).grownBy w2 u.ownBlock) (hloc : u'.ownBlock = u.ownBlock ∨ u'.ownBlock = some (wr.alloc o).heap.size) :
    w2.frozen? ⟨G, qs.length * 4 + 1, none⟩ = false ∧ (∃ x, w2.cell? ⟨G, qs.length * 4 + 1, none⟩ = some x) ∧ Rd w (w2.setCell ⟨G, qs.length * 4 + 1, none⟩ u') L long st nx (.slice (some ⟨G, 0, none⟩) N cap) vq u' qs ps true false (cur ++ [s]) := by
  have hb2 : But (fun k => u.ownBlock = some k) wr w2 := (But.alloc wr o).trans (But.of_grown hg fun k e => e) fun k e => .inl e
  have e0 : (Value.slice (some ⟨G, 0, none⟩) N cap).ownBlock = some G := rfl
  have hp0 := h.pown
  have hN2 : qs.length + nB true = N := hN
  rw [hN2] at hp0
  have hp2 : w2.ownsRow w.heap.size 40 4 (.slice (some ⟨G, 0, none⟩) N cap) N (pcCs qs ++ [.bool false, u, .slice none 0 0, .slice none 0 0]) := ownsRow_kept hp0 fun k e => hb2.block k (hp0.lt k e).2 (h.pu k e)
  have hbS : But (fun k => k = G) w2 (w2.setCell ⟨G, qs.length * 4 + 1, none⟩ u') := But.setL (F := fun k => k = G) rfl _ _
  have hbA : But (fun k => k = G ∨ u.ownBlock = some k) wr (w2.setCell ⟨G, qs.length * 4 + 1, none⟩ u') := (hb2.more (F' := fun k => k = G ∨ u.ownBlock = some k) fun k e => .inr e).trans hbS fun k e => .inl (.inl e)
  refine ⟨hp2.frozenAt _, ⟨u, ?_⟩, h.step (hbA.more fun k e => Or.elim e (fun e => .inr (.inl (by rw [e0, e]))) fun e => .inr (.inr (.inr e))) (fun k e => ?_) ?_ ?_ ?_ ?_ (fun q hq => .inl hq) fun p hp => .inl hp⟩
  · rw [hp2.cellAt _ (by omega), List.getElem?_append_right (by rw [pcCs_len]; omega), pcCs_len, show qs.length * 4 + 1 - qs.length * 4 = 1 by omega]
    rfl
  · rcases e with e | e | e | e
    · exact .inl (.inl e)
    · exact .inl (.inr (.inl e))
    · exact .inl (.inr (.inr (.inl e)))
    · rcases hloc with hl | hl
      · exact .inl (.inr (.inr (.inr (hl.symm.trans e))))
      · rw [hl] at e
        injection e with e
        exact .inr (by rw [← e]; simp)
  · exact (hbA.block L h.lt (by rintro (e | e); exact h.pL (by rw [e0, e]); exact h.uL e)).trans h.at_
  · have := (hp2.stored (qs.length * 4 + 1) u').1
    rw [List.set_append_right _ _ (by rw [pcCs_len]; omega), pcCs_len, show qs.length * 4 + 1 - qs.length * 4 = 1 by omega] at this
    rw [← hN2] at this
    rw [← hN2]
    exact this
  · exact ownsRow_kept h.qown fun k e => hbA.block k (h.qown.lt k e).2 (by rintro (e2 | e2); exact h.pq G e0 (by rw [← e2]; exact e); exact h.qu k e e2)
  · rw [List.length_append, List.map_append]
    exact ownsRow_kept hown fun k e => hbS.block k (hown.lt k e).2 (by rintro rfl; exact rows_apart hp2 hown (by decide) k rfl e)
/-- A text is begun. -/
theorem Rd.new_text (h : Rd w wr L long st nx vp vq (.slice none 0 0) qs ps false false []) (hown : w2.ownsRow w.heap.size 40 4 vp' (qs.length + 1) (pcCs qs ++ [.bool false, .slice none 0 0, .slice none 0 0, .slice none 0 0])) (hg : (wr.alloc o).grownBy w2 vp.ownBlock) (hloc : vp'.ownBlock = vp.ownBlock ∨ vp'.ownBlock = some (wr.alloc o).heap.size) :
    w2.frozen? ⟨L, 1, none⟩ = false ∧ (∃ x, w2.cell? ⟨L, 1, none⟩ = some x) ∧ Rd w (w2.setCell ⟨L, 1, none⟩ vp') L long st nx vp' vq (.slice none 0 0) qs ps true false [] := by
  have hb2 : But (fun k => vp.ownBlock = some k) wr w2 := (But.alloc wr o).trans (But.of_grown hg fun k e => e) fun k e => .inl e
  have hat2 := (hb2.block L h.lt h.pL).trans h.at_
  have hbS : But (fun k => k = L) w2 (w2.setCell ⟨L, 1, none⟩ vp') := But.setL (F := fun k => k = L) rfl _ _
  have hbA : But (fun k => k = L ∨ vp.ownBlock = some k) wr (w2.setCell ⟨L, 1, none⟩ vp') := (hb2.more (F' := fun k => k = L ∨ vp.ownBlock = some k) fun k e => .inr e).trans hbS fun k e => .inl (.inl e)
  refine ⟨unfrozen_of hat2 1, ⟨vp, (cells_of hat2 1).trans rfl⟩, h.step (hbA.more fun k e => Or.elim e .inl fun e => .inr (.inl e)) (fun k e => ?_) (cells5_set vp' hat2).1 ?_ ?_ ?_ (fun q hq => .inl hq) fun p hp => .inl hp⟩
  · rcases e with e | e | e | e
    · exact .inl (.inl e)
    · rcases hloc with hl | hl
      · exact .inl (.inr (.inl (hl.symm.trans e)))
      · rw [hl] at e
        injection e with e
        exact .inr (by rw [← e]; simp)
    · exact .inl (.inr (.inr (.inl e)))
    · exact .inl (.inr (.inr (.inr e)))
  · exact ownsRow_kept hown fun k e => hbS.block k (hown.lt k e).2 (by rintro rfl; exact cells_not_row hat2 (by decide) hown e)
  · exact ownsRow_kept h.qown fun k e => hbA.block k (h.qown.lt k e).2 (by rintro (e2 | e2); exact h.qL (by rw [← e2]; exact e); exact h.pq k e2 e)
  · exact World.ownsRow_nil _ _ _ _
/-- Of what was begun last, a slice. -/
theorem Rd.open_ (h : Rd w wr L long st nx vp vq u qs ps tx cf cur) : ∃ A c, u = .slice A cur.length c ∧ ∀ F w2, (∀ k, u.ownBlock = some k → ¬ F k) → But F wr w2 → TxR w2 w2.heap.size (A, cur.length, c) cur := by
  obtain ⟨A, c, e, h1, h2, h3⟩ := own_slice h.uown
  refine ⟨A, c, e, fun F w2 hF hb => ?_⟩
  obtain ⟨A', c', e', k1, k2, k3⟩ := own_slice (ownsRow_kept h.uown fun k e => hb.block k (h.uown.lt k e).2 (hF k e))
  rw [e] at e'
  injection e' with e1 e2 e3
  subst e1
  subst e3
  exact ⟨k1, k2, k3⟩
/-- The pieces that are finished, with the text that was begun last; the parts likewise. -/
def qsF (qs : List (PcV × Pc)) (tx : Bool) (r : Slc) (cur : Txs) : List (PcV × Pc) := if tx = true then qs ++ [((r, (none, 0, 0), (none, 0, 0)), tPc cur)] else qs
def psF (ps : List (Slc × Txs)) (cf : Bool) (r : Slc) (cur : Txs) : List (Slc × Txs) := if cf = true then ps ++ [(r, cur)] else ps
theorem qsF_cells (r : Slc) : pcCs (qsF qs tx r cur) = pcCs qs ++ tC tx (slcV r) ∧ (qsF qs tx r cur).length = qs.length + nB tx := by
  cases tx with
  | false => exact ⟨(List.append_nil _).symm, rfl⟩
  | true => exact ⟨pcCs_snoc _ _, by simp [qsF, nB]⟩
theorem psF_cells (r : Slc) : (psF ps cf r cur).map (fun p => slcV p.1) = (ps.map fun p => slcV p.1) ++ cC cf (slcV r) ∧ (psF ps cf r cur).length = ps.length + nB cf := by
  cases cf with
  | false => exact ⟨(List.append_nil _).symm, rfl⟩
  | true => exact ⟨by simp [psF, cC], by simp [psF, nB]⟩
/-- A part is begun. -/
theorem Rd.begin_ (h : Rd w wr L long st nx vp vq u qs ps tx cf cur) (nx' : Value) (hown : w2.ownsRow w.heap.size 25 1 vq' (ps.length + nB cf + 1) ((ps.map fun p => slcV p.1) ++ cC cf u ++ [.slice none 0 0])) (hg : (wr.alloc o).grownBy w2 vq.ownBlock) (hloc : vq'.ownBlock = vq.ownBlock ∨ vq'.ownBlock = some (wr.alloc o).heap.size) :
    (∀ k, w2.frozen? ⟨L, k, none⟩ = false) ∧ (∃ x, w2.cell? ⟨L, 2, none⟩ = some x) ∧ (∃ x, w2.cell? ⟨L, 4, none⟩ = some x) ∧ ∃ r, u = slcV r ∧ Rd w ((w2.setCell ⟨L, 2, none⟩ vq').setCell ⟨L, 4, none⟩ nx') L long st nx' vp vq' (.slice none 0 0) (qsF qs tx r cur) (psF ps cf r cur) false true [] := by
  have hb2 : But (fun k => vq.ownBlock = some k) wr w2 := (But.alloc wr o).trans (But.of_grown hg fun k e => e) fun k e => .inl e
  have hat2 := (hb2.block L h.lt h.qL).trans h.at_
  have hbS : But (fun k => k = L) w2 ((w2.setCell ⟨L, 2, none⟩ vq').setCell ⟨L, 4, none⟩ nx') := (But.setL (F := fun k => k = L) rfl _ _).trans (But.setL (F := fun k => k = L) rfl _ _) fun k e => .inl e
  have hbA : But (fun k => k = L ∨ vq.ownBlock = some k) wr ((w2.setCell ⟨L, 2, none⟩ vq').setCell ⟨L, 4, none⟩ nx') := (hb2.more (F' := fun k => k = L ∨ vq.ownBlock = some k) fun k e => .inr e).trans hbS fun k e => .inl (.inl e)
  obtain ⟨A, c, hu, hst⟩ := h.open_
  have hq' : ∀ k, vq'.ownBlock = some k → vq.ownBlock = some k ∨ wr.heap.size ≤ k := fun k e => by
    rcases hloc with hl | hl
    · exact .inl (hl.symm.trans e)
    · rw [hl] at e
      injection e with e
      exact .inr (by rw [← e]; simp)
  -- the text, or part, that was begun last, stands
  have hlast : ∀ w3, But (FuR L vp vq' (.slice none 0 0)) ((w2.setCell ⟨L, 2, none⟩ vq').setCell ⟨L, 4, none⟩ nx') w3 → TxR w3 w3.heap.size (A, cur.length, c) cur := fun w3 h3 => by
    refine hst (fun k => k = L ∨ vp.ownBlock = some k ∨ vq.ownBlock = some k) w3 (fun k e hk => ?_) ((hbA.more (F' := fun k => k = L ∨ vp.ownBlock = some k ∨ vq.ownBlock = some k) fun k e => Or.elim e .inl fun e => .inr (.inr e)).trans h3 fun k e => ?_)
    · rcases hk with hk | hk | hk
      · exact h.uL (by rw [← hk]; exact e)
      · exact h.pu k hk e
      · exact h.qu k hk e
    · rcases e with e | e | e | e
      · exact .inl (.inl e)
      · exact .inl (.inr (.inl e))
      · rcases hq' k e with e | e
        · exact .inl (.inr (.inr e))
        · exact .inr e
      · simp [Value.ownBlock] at e
  refine ⟨unfrozen_of hat2, ⟨vq, (cells_of hat2 2).trans rfl⟩, ⟨nx, (cells_of hat2 4).trans rfl⟩, (A, cur.length, c), hu, h.step (hbA.more fun k e => Or.elim e .inl fun e => .inr (.inr (.inl e))) (fun k e => ?_) (cells5_set nx' (cells5_set vq' hat2).2.1).2.2.2 ?_ ?_ (World.ownsRow_nil _ _ _ _) (fun q hq => ?_) fun p hp => ?_⟩
  · rcases e with e | e | e | e
    · exact .inl (.inl e)
    · exact .inl (.inr (.inl e))
    · rcases hq' k e with e | e
      · exact .inl (.inr (.inr (.inl e)))
      · exact .inr e
    · simp [Value.ownBlock] at e
  · rw [(qsF_cells _).1, (qsF_cells _).2]
    have := ownsRow_kept h.pown (w' := (w2.setCell ⟨L, 2, none⟩ vq').setCell ⟨L, 4, none⟩ nx') fun k e => hbA.block k (h.pown.lt k e).2 (by rintro (e2 | e2); exact h.pL (by rw [← e2]; exact e); exact h.pq k e e2)
    rw [hu] at this
    simpa [nB, tC, slcV] using this
  · rw [(psF_cells _).1, (psF_cells _).2]
    have := ownsRow_kept hown (w' := (w2.setCell ⟨L, 2, none⟩ vq').setCell ⟨L, 4, none⟩ nx') fun k e => hbS.block k (hown.lt k e).2 (by rintro rfl; exact cells_not_row hat2 (by decide) hown e)
    rw [hu] at this
    simpa [nB, cC, slcV] using this
  · cases tx with
    | false => exact .inl hq
    | true =>
      rcases List.mem_append.1 hq with hq | hq
      · exact .inl hq
      · rw [List.mem_singleton.1 hq]
        exact .inr fun w3 h3 => PcR.text (hlast w3 h3)
  · cases cf with
    | false => exact .inl hp
    | true =>
      rcases List.mem_append.1 hp with hp | hp
      · exact .inl hp
      · rw [List.mem_singleton.1 hp]
        exact .inr hlast
/-- The style is told. -/
theorem Rd.style (h : Rd w wr L long st nx vp vq u qs ps tx cf cur) (st' : Int) : Rd w (wr.setCell ⟨L, 3, none⟩ (.int .i64 st')) L long st' nx vp vq u qs ps tx cf cur := by
  have hbS : But (fun k => k = L) wr (wr.setCell ⟨L, 3, none⟩ (.int .i64 st')) := But.setL (F := fun k => k = L) rfl _ _
  refine h.step (hbS.more fun k e => .inl e) (fun k e => .inl e) (cells5_set _ h.at_).2.2.1 ?_ ?_ ?_ (fun q hq => .inl hq) fun p hp => .inl hp
  · exact ownsRow_kept h.pown fun k e => hbS.block k (h.pown.lt k e).2 (by rintro rfl; exact h.pL e)
  · exact ownsRow_kept h.qown fun k e => hbS.block k (h.qown.lt k e).2 (by rintro rfl; exact h.qL e)
  · exact ownsRow_kept h.uown fun k e => hbS.block k (h.uown.lt k e).2 (by rintro rfl; exact h.uL e)
/-- The last line of what was begun last is another one. -/
theorem Rd.last (h : Rd w wr L long st nx vp vq (.slice (some ⟨G, 0, none⟩) N cap) qs ps tx cf cur) (m : Nat) (s : Tx) : Rd w (wr.setCell ⟨G, m, none⟩ (.string (str s))) L long st nx vp vq (.slice (some ⟨G, 0, none⟩) N cap) qs ps tx cf (cur.set m s) := by
  have e0 : (Value.slice (some ⟨G, 0, none⟩) N cap).ownBlock = some G := rfl
  have hbS : But (fun k => k = G) wr (wr.setCell ⟨G, m, none⟩ (.string (str s))) := But.setL (F := fun k => k = G) rfl _ _
  have hN : cur.length = N := by
    obtain ⟨A, c, e, -, -, -⟩ := own_slice h.uown
    injection e with _ e2 _
    exact e2.symm
  have hu := h.uown
  rw [hN] at hu
  refine h.step (hbS.more fun k e => .inr (.inr (.inr (by rw [e0, e])))) (fun k e => .inl e) ((hbS.block L h.lt (by rintro rfl; exact h.uL e0)).trans h.at_) ?_ ?_ ?_ (fun q hq => .inl hq) fun p hp => .inl hp
  · exact ownsRow_kept h.pown fun k e => hbS.block k (h.pown.lt k e).2 (by rintro rfl; exact h.pu _ e e0)
  · exact ownsRow_kept h.qown fun k e => hbS.block k (h.qown.lt k e).2 (by rintro rfl; exact h.qu _ e e0)
  · rw [List.length_set, hN, List.map_set]
    exact (hu.stored m _).1
/-- The conflict is ended: a piece more. -/
theorem Rd.end_ {r : PcV} {p : Pc} (h : Rd w wr L long st nx vp vq u qs ps false true cur) (nx' : Value) (hb1 : But (fun k => vq.ownBlock = some k) wr W1) (hnew : ∀ w3, But (fun k => k = L ∨ vp.ownBlock = some k) W1 w3 → PcR w3 w3.heap.size r p)
    (hown : w2.ownsRow w.heap.size 40 4 vp' (qs.length + 1) (pcCs qs ++ pcC p.1 r)) (hg : W1.grownBy w2 vp.ownBlock) (hloc : vp'.ownBlock = vp.ownBlock ∨ vp'.ownBlock = some W1.heap.size) :
    (∀ k, w2.frozen? ⟨L, k, none⟩ = false) ∧ ((∃ x, w2.cell? ⟨L, 1, none⟩ = some x) ∧ (∃ x, w2.cell? ⟨L, 2, none⟩ = some x) ∧ (∃ x, w2.cell? ⟨L, 4, none⟩ = some x)) ∧ Rd w (((w2.setCell ⟨L, 1, none⟩ vp').setCell ⟨L, 2, none⟩ (.slice none 0 0)).setCell ⟨L, 4, none⟩ nx') L long st nx' vp' (.slice none 0 0) (.slice none 0 0) (qs ++ [(r, p)]) [] false false [] := by
  have hb12 : But (fun k => vp.ownBlock = some k) W1 w2 := But.of_grown hg fun k e => e
  have hb2 : But (fun k => vp.ownBlock = some k ∨ vq.ownBlock = some k) wr w2 := (hb1.more (F' := fun k => vp.ownBlock = some k ∨ vq.ownBlock = some k) fun k e => .inr e).trans hb12 fun k e => .inl (.inl e)
  have hat2 := (hb2.block L h.lt (by rintro (e | e); exact h.pL e; exact h.qL e)).trans h.at_
  have hbS : But (fun k => k = L) w2 (((w2.setCell ⟨L, 1, none⟩ vp').setCell ⟨L, 2, none⟩ (.slice none 0 0)).setCell ⟨L, 4, none⟩ nx') := ((But.setL (F := fun k => k = L) rfl _ _).trans (But.setL (F := fun k => k = L) rfl _ _) fun k e => .inl e).trans (But.setL (F := fun k => k = L) rfl _ _) fun k e => .inl e
  have hp' : ∀ k, vp'.ownBlock = some k → vp.ownBlock = some k ∨ W1.heap.size ≤ k := fun k e => by
    rcases hloc with hl | hl
    · exact .inl (hl.symm.trans e)
    · rw [hl] at e
      injection e with e
      exact .inr (by rw [← e]; simp)
  refine ⟨unfrozen_of hat2, ⟨⟨vp, (cells_of hat2 1).trans rfl⟩, ⟨vq, (cells_of hat2 2).trans rfl⟩, ⟨nx, (cells_of hat2 4).trans rfl⟩⟩, h.step ((hb2.more (F' := FuR L vp vq u) fun k e => Or.elim e (fun e => .inr (.inl e)) fun e => .inr (.inr (.inl e))).trans hbS fun k e => .inl (.inl e)) (fun k e => ?_) (cells5_set nx' (cells5_set _ (cells5_set vp' hat2).1).2.1).2.2.2 ?_ (World.ownsRow_nil _ _ _ _) (World.ownsRow_nil _ _ _ _) (fun q hq => ?_) fun p hp => ?_⟩
  · rcases e with e | e | e | e
    · exact .inl (.inl e)
    · rcases hp' k e with e | e
      · exact .inl (.inr (.inl e))
      · exact .inr (Nat.le_trans hb1.size e)
    · simp [Value.ownBlock] at e
    · simp [Value.ownBlock] at e
  · have := ownsRow_kept hown (w' := ((w2.setCell ⟨L, 1, none⟩ vp').setCell ⟨L, 2, none⟩ (.slice none 0 0)).setCell ⟨L, 4, none⟩ nx') fun k e => hbS.block k (hown.lt k e).2 (by rintro rfl; exact cells_not_row hat2 (by decide) hown e)
    rw [List.length_append, pcCs_snoc]
    simpa [nB, tC] using this
  · rcases List.mem_append.1 hq with hq | hq
    · exact .inl hq
    · rw [List.mem_singleton.1 hq]
      refine .inr fun w3 h3 => hnew w3 (((hb12.more (F' := fun k => k = L ∨ vp.ownBlock = some k) fun k e => .inr e).trans hbS fun k e => .inl (.inl e)).trans h3 fun k e => ?_)
      rcases e with e | e | e | e
      · exact .inl (.inl e)
      · rcases hp' k e with e | e
        · exact .inl (.inr e)
        · exact .inr e
      · simp [Value.ownBlock] at e
      · simp [Value.ownBlock] at e
  · cases hp
/-- The pieces, outside of a conflict. -/
theorem Rd.pcs (h : Rd w wr L long st nx vp vq u qs ps tx false cur) : ∃ A n c vs, vp = .slice A n c ∧ n ≤ c ∧ c ≤ maxLen ∧ Pcs wr wr.heap.size A n vs ((qs.map fun q => q.2) ++ if tx = true then [tPc cur] else []) := by
  obtain ⟨A, c, hu, hst⟩ := h.open_
  have hp := h.pown
  rw [hu] at hp
  have e1 := qsF_cells (qs := qs) (tx := tx) (cur := cur) (A, cur.length, c)
  have hp2 : wr.ownsRow w.heap.size 40 4 vp (qsF qs tx (A, cur.length, c) cur).length (pcCs (qsF qs tx (A, cur.length, c) cur)) := by
    rw [e1.1, e1.2]
    exact hp
  obtain ⟨A2, c2, e, h1, h2, h3⟩ := pcs_reads hp2 fun q hq => by
    cases tx with
    | false => exact h.qrow wr (But.refl _ _) q hq
    | true =>
      rcases List.mem_append.1 hq with hq | hq
      · exact h.qrow wr (But.refl _ _) q hq
      · rw [List.mem_singleton.1 hq]
        exact PcR.text (hst (fun _ => False) wr (fun _ _ h => h) (But.refl _ _))
  have e2 : (qsF qs tx (A, cur.length, c) cur).map (fun q => q.2) = (qs.map fun q => q.2) ++ if tx = true then [tPc cur] else [] := by cases tx <;> simp [qsF]
  rw [e2] at h3
  exact ⟨A2, _, c2, _, e, h1, h2, h3⟩
end
end Go.Proofs.YtcpopnhnihbofaaGreatDoor
