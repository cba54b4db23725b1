/- Proved here: texts joined: PcOut, ConUnm, MkPlA. -/
import Derived.Test.YtcpopnhnihbofaaGreatDoorBe03
import Derived.Test.YtcpopnhnihbofaaGreatDoorBe08
import Derived.Test.YtcpopnhnihbofaaGreatDoorBe12
import Derived.WalkLawsBesides
import Derived.IntWalk
import Derived.OwnWalk
import Derived.Maps.AppendAt
import Derived.Deep.DeepCutAuto
import Derived.RangeFuncBox
import Derived.Laws.OwnMore
/- Proved here, without conditions on the program: texts, and pieces, that a call has made, or tells. -/
namespace Go.Proofs.YtcpopnhnihbofaaGreatDoor
open Go.RowKit
set_option linter.unusedVariables false

/-- A piece that a call tells. -/
def PieceOut (w w' : World) (e : Ending) (p : Pc) : Prop :=
  ∃ v : PcV, e = .returned (.agg #[.bool p.1, .slice v.1.1 v.1.2.1 v.1.2.2, .slice v.2.1.1 v.2.1.2.1 v.2.1.2.2, .slice v.2.2.1 v.2.2.2.1 v.2.2.2.2]) ∧ PcR w' w'.heap.size v p ∧ Below w.heap.size w w'
theorem PcR.text {w : World} {B : Nat} {r : Slc} {t : Txs} (h : TxR w B r t) : PcR w B (r, (none, 0, 0), (none, 0, 0)) (tPc t) := ⟨h, TxR.nil _ _, SlcR.nil _ _⟩
theorem PcR.conf {w : World} {B : Nat} {r q : Slc} {b : Txs} {s : List Txs} (h : TxR w B r b) (h2 : SlcR w B q s) : PcR w B ((none, 0, 0), r, q) (cPc b s) := ⟨TxR.nil _ _, h, h2⟩
/-- Parts that aren't too long. -/
def smallT (base : Txs) (ps : List Txs) : Prop := (∀ d ∈ base :: ps, d.length ≤ 1000000) ∧ ∀ d ∈ base :: ps, ∀ s ∈ d, s.length ≤ 1000000
theorem unionT_small {base : Txs} {ps : List Txs} (h : smallT base ps) (hn : ps.length ≤ 1000) : (∀ d ∈ diffs base ps, d.length ≤ 1000000) ∧ (∀ d ∈ diffs base ps, ∀ s ∈ d, s.length ≤ 1000000) ∧ (unionT (diffs base ps)).length ≤ 1000000000 := by
  have h1 : ∀ d ∈ diffs base ps, d.length ≤ 1000000 := fun d hd => h.1 d (List.mem_cons_of_mem _ (mem_diffs.1 hd).1)
  refine ⟨h1, fun d hd => h.2 d (List.mem_cons_of_mem _ (mem_diffs.1 hd).1), ?_⟩
  rw [union_len]
  have key : ∀ ds : List Txs, (∀ d ∈ ds, d.length ≤ 1000000) → ds.flatten.length ≤ ds.length * 1000000 := by
    intro ds
    induction ds with
    | nil => simp
    | cons d ds ih =>
      intro h
      have := ih fun e he => h e (List.mem_cons_of_mem _ he)
      have := h d (List.mem_cons_self ..)
      rw [List.flatten_cons, List.length_append, List.length_cons]
      omega
  have h2 := key _ h1
  have h3 := diffs_len base ps
  omega

/-- Texts don't lie in a block that holds none. -/
theorem TxR.apart {w : World} {L : Nat} {C : Array Value} {t : TypeId} {r : Slc} {ss : Txs} (h : TxR w w.heap.size r ss) (hL : w.heap[L]? = some (.cells C t (0, 0))) (hC : ∀ (k : Nat) (s : ByteArray), C[k]? ≠ some (Value.string s)) : 0 < r.2.1 → ∀ q o, r.1 = some ⟨q, o, none⟩ → q ≠ L := by
  rintro hn q o e rfl
  obtain ⟨b, o', e', hlt, hc⟩ := h.2.2.2 hn
  rw [e] at e'
  injection e' with e'
  injection e' with e1 e2
  subst e1
  have hl := h.2.2.len
  have h0 : ss[0]? = some (ss[0]'(by omega)) := List.getElem?_eq_getElem _
  have := hc 0 (.string (str (ss[0]'(by omega)))) (by rw [List.getElem?_map, h0]; rfl)
  rw [cells_of hL] at this
  exact hC _ _ this
theorem piece_cells (c : Bool) (a b d : Option Addr) (n1 n2 n3 c1 c2 c3 : Nat) : ∀ (k : Nat) (s : ByteArray), (#[.bool c, .slice a n1 c1, .slice b n2 c2, .slice d n3 c3] : Array Value)[k]? ≠ some (Value.string s)
  | 0, s => by simp
  | 1, s => by simp
  | 2, s => by simp
  | 3, s => by simp
  | k + 4, s => by simp
/-- What a result's block holds. -/
theorem piece_at {w : World} {L : Nat} {t : TypeId} {u0 u1 u2 u3 : Value} (h : w.heap[L]? = some (.cells #[u0, u1, u2, u3] t (0, 0))) : w.cell? ⟨L, 0, none⟩ = some u0 ∧ w.cell? ⟨L, 1, none⟩ = some u1 ∧ w.cell? ⟨L, 2, none⟩ = some u2 ∧ w.cell? ⟨L, 3, none⟩ = some u3 ∧ w.frozen? ⟨L, 0, none⟩ = false ∧ w.frozen? ⟨L, 1, none⟩ = false ∧ w.frozen? ⟨L, 2, none⟩ = false ∧ w.frozen? ⟨L, 3, none⟩ = false :=
  ⟨by rw [cells_of h]; rfl, by rw [cells_of h]; rfl, by rw [cells_of h]; rfl, by rw [cells_of h]; rfl, unfrozen_of h 0, unfrozen_of h 1, unfrozen_of h 2, unfrozen_of h 3⟩
/-- A piece is stored. -/
theorem But.piece (w : World) (L : Nat) (u0 u1 u2 u3 : Value) : But (fun k => k = L) w ((((w.setCell ⟨L, 0, none⟩ u0).setCell ⟨L, 1, none⟩ u1).setCell ⟨L, 2, none⟩ u2).setCell ⟨L, 3, none⟩ u3) :=
  (((But.setCell (F := fun k => k = L) w (p := ⟨L, 0, none⟩) rfl _).trans (But.setCell (F := fun k => k = L) _ (p := ⟨L, 1, none⟩) rfl _) fun k e => .inl e).trans (But.setCell (F := fun k => k = L) _ (p := ⟨L, 2, none⟩) rfl _) fun k e => .inl e).trans (But.setCell (F := fun k => k = L) _ (p := ⟨L, 3, none⟩) rfl _) fun k e => .inl e

/-- A piece that lies in block L, told. -/
theorem piece_done {w w1 : World} {L : Nat} {p : Pc} {v : PcV} (hL : w.heap.size ≤ L) (hb : Below w.heap.size w w1) (h : ∀ w', But (fun k => k = L) w1 w' → PcR w' w'.heap.size v p) (u0 u1 u2 u3 : Value) :
    PieceOut w ((((w1.setCell ⟨L, 0, none⟩ u0).setCell ⟨L, 1, none⟩ u1).setCell ⟨L, 2, none⟩ u2).setCell ⟨L, 3, none⟩ u3) (.returned (.agg #[.bool p.1, .slice v.1.1 v.1.2.1 v.1.2.2, .slice v.2.1.1 v.2.1.2.1 v.2.1.2.2, .slice v.2.2.1 v.2.2.2.1 v.2.2.2.2])) p :=
  ⟨v, rfl, h _ (But.piece w1 L u0 u1 u2 u3), hb.trans ((But.piece w1 L u0 u1 u2 u3).below hb.size (by rintro k rfl; exact hL))⟩
/-- What came in stands. -/
theorem TxR.old {w w1 w' : World} {L : Nat} {r : Slc} {ss : Txs} (h : TxR w w.heap.size r ss) (hL : w.heap.size ≤ L) (hb : Below w.heap.size w w1) (hb' : But (fun k => k = L) w1 w') : TxR w' w'.heap.size r ss :=
  h.up (hb.trans (hb'.below hb.size (by rintro k rfl; exact hL)))

/-- Pieces, and the slices that hold them: their cells. -/
def pcCs (qs : List (PcV × Pc)) : List Value := qs.flatMap fun q => pcC q.2.1 q.1
theorem pcCs_len : ∀ qs : List (PcV × Pc), (pcCs qs).length = qs.length * 4
  | [] => rfl
  | q :: qs => by
    show (pcC q.2.1 q.1 ++ pcCs qs).length = _
    rw [List.length_append, pcCs_len qs, List.length_cons]
    show 4 + qs.length * 4 = _
    omega
theorem pcCs_at : ∀ (qs : List (PcV × Pc)) (j r : Nat) (q : PcV × Pc), qs[j]? = some q → r < 4 → (pcCs qs)[j * 4 + r]? = (pcC q.2.1 q.1)[r]?
  | [], _, _, _, h, _ => by simp at h
  | d :: qs, 0, r, q, h, hr => by
    simp at h
    subst h
    show (pcC d.2.1 d.1 ++ pcCs qs)[0 * 4 + r]? = _
    rw [Nat.zero_mul, Nat.zero_add, List.getElem?_append_left (by show r < 4; exact hr)]
  | d :: qs, j + 1, r, q, h, hr => by
    show (pcC d.2.1 d.1 ++ pcCs qs)[(j + 1) * 4 + r]? = _
    rw [List.getElem?_append_right (by show 4 ≤ _; omega), show (j + 1) * 4 + r - (pcC d.2.1 d.1).length = j * 4 + r by show (j + 1) * 4 + r - 4 = _; omega]
    exact pcCs_at qs j r q (by simpa using h) hr
theorem pcCs_snoc (qs : List (PcV × Pc)) (q : PcV × Pc) : pcCs (qs ++ [q]) = pcCs qs ++ pcC q.2.1 q.1 := by simp [pcCs]

theorem addr_add (g k : Nat) : (⟨g, 0, none⟩ : Addr).add k = ⟨g, k, none⟩ := by unfold Addr.add; split <;> simp_all

/-- Pieces of the call's own. -/
structure PcsO (w wr : World) (v : Value) (qs : List (PcV × Pc)) : Prop where
  own : wr.ownsRow w.heap.size 40 4 v qs.length (pcCs qs)
  row : ∀ w2, But (fun k => v.ownBlock = some k) wr w2 → ∀ q ∈ qs, PcR w2 w2.heap.size q.1 q.2
  below : Below w.heap.size w wr
/-- Pieces that a call tells. -/
def PcsOut (w w' : World) (e : Ending) (ps : List Pc) : Prop := ∃ A n c vs, e = .returned (.slice A n c) ∧ n ≤ c ∧ c ≤ maxLen ∧ Pcs w' w'.heap.size A n vs ps ∧ Below w.heap.size w w'

/-- Pieces that a call tells, that lie in memory that the call has made. -/
def PcsNew (w w' : World) (e : Ending) (ps : List Pc) : Prop := ∃ A n c vs, e = .returned (.slice A n c) ∧ n ≤ c ∧ c ≤ maxLen ∧ (∀ w2, But (fun k => k < w.heap.size) w' w2 → Pcs w2 w2.heap.size A n vs ps) ∧ Below w.heap.size w w'
theorem PcsNew.out {w w' : World} {e : Ending} {ps : List Pc} (h : PcsNew w w' e ps) : PcsOut w w' e ps := by
  obtain ⟨A, n, c, vs, h1, h2, h3, h4, h5⟩ := h
  exact ⟨A, n, c, vs, h1, h2, h3, h4 w' (But.refl _ _), h5⟩

section
variable {w wr w1 w2 : World} {v v' : Value} {qs : List (PcV × Pc)}
theorem PcsO.start (w : World) : PcsO w w (.slice none 0 0) [] := ⟨World.ownsRow_nil _ _ _ _, fun w2 h q hq => by simp at hq, Below.refl _ _⟩
theorem PcsO.up (h : PcsO w wr v qs) (hb : Below wr.heap.size wr w1) : PcsO w w1 v qs :=
  ⟨ownsRow_kept h.own fun k e => hb.block k (h.own.lt k e).2, fun w2 h2 => h.row w2 ((But.of_below hb fun k hk _ => hk).trans h2 fun k e => .inl e), h.below.trans (hb.mono h.below.size)⟩
theorem PcsO.put {r : PcV} {p : Pc} {o : Obj} (h : PcsO w wr v qs) (hr : ∀ w2, But (fun k => v.ownBlock = some k) wr w2 → PcR w2 w2.heap.size r p)
    (hown : w2.ownsRow w.heap.size 40 4 v' (qs.length + 1) (pcCs qs ++ pcC p.1 r)) (hg : (wr.alloc o).grownBy w2 v.ownBlock) (hloc : v'.ownBlock = v.ownBlock ∨ v'.ownBlock = some (wr.alloc o).heap.size) : PcsO w w2 v' (qs ++ [(r, p)]) := by
  have hb2 : But (fun k => v.ownBlock = some k) wr w2 := (But.alloc wr o).trans (But.of_grown hg fun k e => e) fun k e => .inl e
  refine ⟨by rw [List.length_append, pcCs_snoc]; exact hown, fun w3 h3 q hq => ?_, (h.below.alloc h.below.size o).grown hg (by have := h.below.size; simp; omega) fun j e => (h.own.lt j e).1⟩
  have hb3 : But (fun k => v.ownBlock = some k) wr w3 := hb2.trans h3 fun k e => by
    rcases hloc with hl | hl
    · exact .inl (hl.symm.trans e)
    · rw [hl] at e
      injection e with e
      exact .inr (by rw [← e]; simp)
  rcases List.mem_append.1 hq with hq | hq
  · exact h.row w3 hb3 q hq
  · rw [List.mem_singleton.1 hq]
    exact hr w3 hb3
theorem pcs_reads {w wr : World} {v : Value} {qs : List (PcV × Pc)} (hr : wr.ownsRow w.heap.size 40 4 v qs.length (pcCs qs)) (hrow : ∀ q ∈ qs, PcR wr wr.heap.size q.1 q.2) : ∃ A c, v = .slice A qs.length c ∧ qs.length ≤ c ∧ c ≤ maxLen ∧ Pcs wr wr.heap.size A qs.length (qs.map fun q => q.1) (qs.map fun q => q.2) := by
  have hread : ∀ (g c : Nat), v = .slice (some ⟨g, 0, none⟩) qs.length c → Pcs wr wr.heap.size (some ⟨g, 0, none⟩) qs.length (qs.map fun q => q.1) (qs.map fun q => q.2) := by
    rintro g c rfl
    have key : ∀ (j : Nat) (v : PcV) (p : Pc), (qs.map fun q => q.1)[j]? = some v → (qs.map fun q => q.2)[j]? = some p → qs[j]? = some (v, p) := fun j v p a b => by
      rw [List.getElem?_map] at a b
      cases hq : qs[j]? with
      | none => rw [hq] at a; cases a
      | some q =>
        rw [hq] at a b
        simp at a b
        rw [← a, ← b]
    refine ⟨by simp, by simp, fun hn => ⟨g, 0, rfl, (hr.lt g rfl).2, fun j v p a b => ?_⟩, fun j v p a b => hrow _ (List.mem_of_getElem? (key j v p a b))⟩
    have hq := key j v p a b
    have hc := hr.cells (g := g) rfl
    have hadd := addr_add g
    have kk : ∀ r, r < 4 → ∀ u, (pcC p.1 v)[r]? = some u → wr.cell? ⟨g, 0 + j * 4 + r, none⟩ = some u := fun r hr2 u hu => by
      rw [Nat.zero_add, ← hadd]
      exact hc _ u ((pcCs_at qs j r _ hq hr2).trans hu)
    have k0 := kk 0 (by omega) (.bool p.1) rfl
    have k1 := kk 1 (by omega) (slcV v.1) rfl
    have k2 := kk 2 (by omega) (slcV v.2.1) rfl
    have k3 := kk 3 (by omega) (slcV v.2.2) rfl
    exact ⟨k0, k1, k2, k3⟩
  rcases hr.2 with ⟨rfl, h0⟩ | ⟨g, cap, cur, rfl, _, _, hnc, hcm, _⟩
  · have : qs = [] := List.eq_nil_of_length_eq_zero h0
    subst this
    exact ⟨none, 0, rfl, Nat.le_refl _, Nat.zero_le _, Pcs.nil _ _ _⟩
  · exact ⟨_, cap, rfl, hnc, hcm, hread g cap rfl⟩
theorem PcsO.reads (h : PcsO w wr v qs) : ∃ A c, v = .slice A qs.length c ∧ qs.length ≤ c ∧ c ≤ maxLen ∧ Pcs wr wr.heap.size A qs.length (qs.map fun q => q.1) (qs.map fun q => q.2) := pcs_reads h.own (h.row wr (But.refl _ _))
theorem PcsO.out (h : PcsO w wr v qs) : PcsOut w wr (.returned v) (qs.map fun q => q.2) := by
  obtain ⟨A, c, rfl, h1, h2, h3⟩ := h.reads
  exact ⟨A, _, c, _, rfl, h1, h2, h3, h.below⟩
end

/-- How many texts there are in all. -/
def sumT (ps : List Pc) : Nat := (ps.map fun p => p.2.1.length).sum
theorem sumT_cons (p : Pc) (ps : List Pc) : sumT (p :: ps) = p.2.1.length + sumT ps := by simp [sumT]
theorem sumT_drop (ps : List Pc) (i : Nat) : sumT (ps.drop i) ≤ sumT ps := by
  induction ps generalizing i with
  | nil => simp
  | cons p ps ih =>
    cases i with
    | zero => simp
    | succ i =>
      rw [List.drop_succ_cons, sumT_cons]
      have := ih i
      omega
theorem normal_conf {ps : List Pc} {i : Nat} {t bs : Txs} {ss : List Txs} (h : ps[i]? = some (true, t, bs, ss)) : normal (ps.drop i) = cPc bs ss :: normal (ps.drop (i + 1)) := by rw [drop_at h]; rfl
theorem normal_text {ps : List Pc} {i : Nat} {t bs : Txs} {ss : List Txs} (h : ps[i]? = some (false, t, bs, ss)) : normal (ps.drop i) = joinT t (normal (ps.drop (i + 1))) := by rw [drop_at h]; rfl
theorem joinT_stop {xs : Txs} {ps : List Pc} {j : Nat} (h : ps.length ≤ j ∨ ∃ p, ps[j]? = some p ∧ p.1 = true) : joinT xs (normal (ps.drop j)) = if xs = [] then normal (ps.drop j) else tPc xs :: normal (ps.drop j) := by
  rcases h with h | ⟨⟨c, t, bs, ss⟩, h, hc⟩
  · rw [List.drop_eq_nil_iff.2 h]
    simp [normal, joinT]
  · simp at hc
    subst hc
    rw [normal_conf h]
    simp [joinT, cPc]
theorem infoPc : (Tryz.prog.info? 40).map (fun i => (i.zero, i.size, i.bytes)) = some (some (.agg #[.bool false, .slice none 0 0, .slice none 0 0, .slice none 0 0]), 4, 80) := by kernel_rfl
theorem cell_new_pc (w : World) (c : Bool) (v : PcV) (t : TypeId) : ∀ j u, (pcC c v)[j]? = some u → (w.alloc (.cells #[.bool c, .slice v.1.1 v.1.2.1 v.1.2.2, .slice v.2.1.1 v.2.1.2.1 v.2.1.2.2, .slice v.2.2.1 v.2.2.2.1 v.2.2.2.2] t)).cell? ((⟨w.heap.size, 0, none⟩ : Addr).add j) = some u := by
  intro j u hu
  rw [addr_add, World.cell?_alloc_mark]
  simpa [pcC, slcV] using hu
/-- What came in stands, but for blocks of the call's own. -/
theorem PcR.old {w wr w2 : World} {v : Value} {qs : List (PcV × Pc)} {r : PcV} {p : Pc} (h : PcR wr w.heap.size r p) (hP : PcsO w wr v qs) (hb : But (fun k => v.ownBlock = some k) wr w2) : PcR w2 w2.heap.size r p := by
  refine (h.keep fun q hq => ?_).more (Nat.le_trans hP.below.size hb.size)
  refine World.cell?_of_block (hb.block q.block (by have := hP.below.size; omega) fun e => ?_)
  have := (hP.own.lt _ e).1
  omega
/-- Texts of the call's own stand, but for its pieces. -/
theorem TxO.text {w w1 wr w2 : World} {v u : Value} {qs : List (PcV × Pc)} {xs : Txs} {A : Option Addr} {n c : Nat} (h : TxO w1 wr u xs) (hu : u = .slice A n c) (hP : PcsO w w1 v qs) (hb : But (fun k => v.ownBlock = some k) wr w2) : PcR w2 w2.heap.size ((A, n, c), (none, 0, 0), (none, 0, 0)) (tPc xs) := by
  obtain ⟨A', c', e, h1, h2, h3⟩ := own_slice h.own
  rw [hu] at e
  injection e with e1 e2 e3
  subst e1
  subst e2
  subst e3
  refine PcR.text (TxR.but ⟨h1, h2, h3⟩ hb fun hn q o e hq => ?_)
  have k1 : u.ownBlock = some q := by rw [hu]; dsimp only at e; rw [e]; rfl
  have := (h.own.lt _ k1).1
  have := (hP.own.lt _ hq).2
  omega

theorem pcs_of {W : World} {g n : Nat} {qs : List (PcV × Pc)} {C : Array Value} {t : TypeId} (h : W.heap[g]? = some (.cells C t (0, 0))) (hC : C = (pcCs qs).toArray) (hn : qs.length = n)
    (each : ∀ q ∈ qs, PcR W W.heap.size q.1 q.2) : Pcs W W.heap.size (some ⟨g, 0, none⟩) n (qs.map fun q => q.1) (qs.map fun q => q.2) := by
  have key : ∀ (j : Nat) (v : PcV) (p : Pc), (qs.map fun q => q.1)[j]? = some v → (qs.map fun q => q.2)[j]? = some p → qs[j]? = some (v, p) := fun j v p a b => by
    rw [List.getElem?_map] at a b
    cases hq : qs[j]? with
    | none => rw [hq] at a; cases a
    | some q =>
      rw [hq] at a b
      simp at a b
      rw [← a, ← b]
  refine ⟨by simpa using hn, by simpa using hn, fun _ => ⟨g, 0, rfl, (Array.getElem?_eq_some_iff.1 h).1, fun j v p a b => ?_⟩, fun j v p a b => each _ (List.mem_of_getElem? (key j v p a b))⟩
  have hq := key j v p a b
  have kk : ∀ r, r < 4 → ∀ u, (pcC p.1 v)[r]? = some u → W.cell? ⟨g, 0 + j * 4 + r, none⟩ = some u := fun r hr2 u hu => by
    rw [Nat.zero_add, cells_of h, hC]
    have := (pcCs_at qs j r _ hq hr2).trans hu
    simpa using this
  have k0 := kk 0 (by omega) (.bool p.1) rfl
  have k1 := kk 1 (by omega) (slcV v.1) rfl
  have k2 := kk 2 (by omega) (slcV v.2.1) rfl
  have k3 := kk 3 (by omega) (slcV v.2.2) rfl
  exact ⟨k0, k1, k2, k3⟩

/-- The block of one piece. -/
def pcObj (cf : Bool) (v : PcV) : Obj := .cells #[.bool cf, .slice v.1.1 v.1.2.1 v.1.2.2, .slice v.2.1.1 v.2.1.2.1 v.2.1.2.2, .slice v.2.2.1 v.2.2.2.1 v.2.2.2.2] 40
/-- A slice of one piece that lies in a block. -/
theorem pcs_one {W : World} {g : Nat} {v : PcV} {p : Pc} (h : W.heap[g]? = some (pcObj p.1 v)) (hr : PcR W W.heap.size v p) : Pcs W W.heap.size (some ⟨g, 0, none⟩) 1 [v] [p] :=
  pcs_of (qs := [(v, p)]) (t := 40) h rfl rfl fun q hq => by rw [List.mem_singleton.1 hq]; exact hr

end Go.Proofs.YtcpopnhnihbofaaGreatDoor
/- What the statements ask of unmark.Parse; their own example of layer 13 comes to true. -/
namespace Go.Proofs.YtcpopnhnihbofaaGreatDoor
open Go.RowKit
set_option linter.unusedVariables false
set_option maxRecDepth 100000

/-- What a walk tells. -/
def resM : Except Nat MSt → List Pc × Int × Int × Int
  | .ok s => (flushM s.out s.cur, max s.style 1, 0, 0)
  | .error n => ([], 0, n, 2)
theorem parseM_res (l : Txs) (long : Nat) (h1 : 1 ≤ long) (h2 : long ≤ 4096) : parseM l (long : Int) = resM (walkM long startM l 0) := by
  unfold parseM
  rw [if_neg (by omega), Int.toNat_natCast]
  cases walkM long startM l 0 <;> rfl
/-- What a call tells: pieces, a style, a number, an error. -/
def ParseA (w w' : World) (e : Ending) (x : List Pc × Int × Int × Int) : Prop :=
  ∃ A n c vs, e = .returned (.tuple #[.slice A n c, .int .i64 x.2.1, .int .i64 x.2.2.1, .int .i64 x.2.2.2]) ∧ n ≤ c ∧ c ≤ maxLen ∧ Pcs w' w'.heap.size A n vs x.1 ∧ Below w.heap.size w w'

/-- Texts that aren't too many, nor too long. -/
def smallL (l : Txs) : Prop := l.length ≤ 20000000 ∧ ∀ t ∈ l, t.length ≤ 1000000
/-- The contract of unmark.Parse. -/
def UnmParseOk : Prop := ∀ (A : Option Addr) (n c : Nat) (l : Txs) (long : Int) (w : World), inR64 long → smallL l → TxR w w.heap.size (A, n, c) l →
    Calls Tryz.prog 9 #[.slice A n c, .int .i64 long] w fun e w' => ParseA w w' e (parseM l long)

def uL : Txs := [[116, 10], [60, 60, 32, 49, 10], [97, 10], [61, 61, 32, 50, 10], [98, 10], [62, 62, 33, 10]]
theorem uL_one : parseM uL 2 = ([tPc [[116, 10]], cPc [] [[[97, 10]], [[98]]]], 1, 0, 0) := by rfl
theorem uL_two : parseM (uL.take 3) 2 = ([], 0, 4, 2) := by rfl
theorem uL_three : parseM [] 0 = ([], 0, 0, 1) := by rfl
theorem few_smallL {l : Txs} {k : Nat} (h : l.length ≤ k) (hk : k ≤ 20000000) (hs : ∀ t ∈ l, t.length ≤ 1000000) : smallL l := ⟨by omega, hs⟩
/-- Some texts, from the first one on. -/
theorem txr_cut {W : World} {B n c k : Nat} {A : Option Addr} {ss : Txs} (h : TxR W B (A, n, c) ss) (hk : k ≤ n) : TxR W B (A, k, c) (ss.take k) := by
  obtain ⟨h1, h2, h3⟩ := h
  dsimp only at h1 h2 h3
  have hl := h3.len
  refine ⟨by show k ≤ c; omega, h2, by rw [List.length_map, List.length_take]; show min k ss.length = k; omega, fun hn => ?_⟩
  obtain ⟨b, o, e, hb, hc⟩ := h3.2 (by show 0 < n; have : 0 < k := hn; omega)
  refine ⟨b, o, e, hb, fun j u hu => hc j u ?_⟩
  have hj := (List.getElem?_eq_some_iff.1 hu).1
  rw [List.length_map, List.length_take] at hj
  rw [← hu, List.map_take, List.getElem?_take, if_pos (by omega)]

section
variable (H : UnmParseOk)
include H

set_option maxHeartbeats 8000000 in
theorem unAwake_any (w : World) : Calls Tryz.prog 6 #[] w fun e w' => e = .returned (.bool true) ∧ Below w.heap.size w w' := by
  obtain ⟨W0, hW0⟩ : ∃ W0, W0 = w.alloc (.cells #[.string ⟨#[116, 10]⟩, .string ⟨#[60, 60, 32, 49, 10]⟩, .string ⟨#[97, 10]⟩, .string ⟨#[61, 61, 32, 50, 10]⟩, .string ⟨#[98, 10]⟩, .string ⟨#[62, 62, 33, 10]⟩] 9) := ⟨_, rfl⟩
  have hT : TxR W0 W0.heap.size (some ⟨w.heap.size, 0, none⟩, 6, 6) uL := by rw [hW0]; exact txr_of (one_a w _) rfl rfl (by decide)
  have hB0 : Below w.heap.size w W0 := by rw [hW0]; exact below_alloc (Below.refl _ _) _
  have hsm : smallL uL := ⟨by decide, by decide⟩
  have hC1 : Hid (Calls Tryz.prog 9 #[.slice (some ⟨w.heap.size, 0, none⟩) 6 6, .int .i64 2] W0 fun e w' => ParseA W0 w' e ([tPc [[116, 10]], cPc [] [[[97, 10]], [[98]]]], 1, 0, 0)) := Lib.hid (by rw [← uL_one]; exact H _ 6 6 uL 2 W0 (by unfold inR64; decide) hsm hT)
  have hC2 : Hid (∀ W, Below W0.heap.size W0 W → Calls Tryz.prog 9 #[.slice (some ⟨w.heap.size, 0, none⟩) 3 6, .int .i64 2] W fun e w' => ParseA W w' e ([], 0, 4, 2)) := Lib.hid (fun W hW => by rw [← uL_two]; exact H _ 3 6 (uL.take 3) 2 W (by unfold inR64; decide) ⟨by decide, by decide⟩ ((txr_cut hT (by decide)).up hW))
  have hC3 : Hid (∀ W, Calls Tryz.prog 9 #[.slice none 0 0, .int .i64 0] W fun e w' => ParseA W w' e ([], 0, 0, 1)) := Lib.hid (fun W => by rw [← uL_three]; exact H _ 0 0 [] 0 W (by unfold inR64; decide) ⟨by decide, by decide⟩ (TxR.nil _ _))
  have hW0h := Lib.hid hW0
  have hB0h := Lib.hid hB0
  clear hT hB0 hW0 hsm
  go_enter Tryz.func6, Tryz.ntmps6
  go_upto_region 2 with fail
  rw [← hW0h.out]
  have tok1 := trivial
  go_upto_region 5 with (first
    | (go_at_call 9; have _t := tok1; refine hC1.out.mono ?_; rintro e w1 ⟨A1, n1, c1, vs1, rfl, q1, q2, q3, q4⟩; have hP1 := Lib.hid (And.intro (Nat.le_trans q1 q2) q3); have hD1 := Lib.hid q4; have tok2 := trivial; clear tok1 q1 q2 q3 q4)
    | (go_at_call 9; have _t := tok2; refine (hC2.out _ hD1.out).mono ?_; rintro e w2 ⟨A2, n2, c2, vs2, rfl, q1, q2, q3, q4⟩; have hD2 := Lib.hid (hD1.out.trans (q4.mono hD1.out.size)); have hP2 := Lib.hid (hP1.out.2.up q4); have tok3 := trivial; clear tok2 q1 q2 q3 q4)
    | (go_at_call 9; have _t := tok3; refine (hC3.out _).mono ?_; rintro e w3 ⟨A3, n3, c3, vs3, rfl, q1, q2, q3, q4⟩; have hD3 := Lib.hid (hD2.out.trans (q4.mono hD2.out.size)); have hP3 := Lib.hid (hP2.out.up q4); clear tok3 q1 q2 q3 q4))
  have e1 : n1 = 2 := by have := hP3.out.len; simpa using this.symm
  subst e1
  obtain ⟨b, o, cf, At, nt, ct, Ab, nb, cb, As, ns, cs, t, bs, ss, rfl, hb, hv, hp, q1, q2, q3, q4, -, -, ⟨-, -, rr, k3⟩⟩ := hP3.out.at_ (k := 1) (by omega)
  simp [tPc, cPc] at hp
  obtain ⟨rfl, rfl, rfl, rfl⟩ := hp
  dsimp only at k3
  have h3 : ns = 2 := by have := k3.len; simpa using this.symm
  subst h3
  obtain ⟨bs2, os2, Aq, nq, cq, dq, rfl, hbs2, hdq, hrq, hcq, -, -, hsq⟩ := k3.at_ (k := 1) (by omega)
  have hdq' : dq = [[98]] := by simpa using hdq.symm
  subst hdq'
  have h5 : nq = 1 := by have := hsq.len; simpa using this.symm
  subst h5
  obtain ⟨bz, oz, sz, rfl, hbz, hsz, hcz⟩ := hsq.at_ (k := 0) (by omega)
  have hsz' : sz = [98] := by simpa using hsz.symm
  subst hsz'
  have y3 : w3.cell? ⟨bz, oz, none⟩ = some (.string ⟨#[98]⟩) := hcz
  simp only [Nat.one_mul] at q1 q2 q3 q4
  clear hcz hsz hv hdq hrq k3 hsq hP1 hP2 hP3
  go_wp2
  go_ret
  exact ⟨rfl, hB0h.out.trans (hD3.out.mono hB0h.out.size)⟩
end
end Go.Proofs.YtcpopnhnihbofaaGreatDoor
/- Proved here, without conditions on the program: texts put together; how many lines a conflict makes. -/
namespace Go.Proofs.YtcpopnhnihbofaaGreatDoor
open Go.RowKit
set_option linter.unusedVariables false
set_option maxRecDepth 100000

theorem rep_app (c : UInt8) (i : Nat) : str (List.replicate i c) ++ str [c] = str (List.replicate (i + 1) c) := by
  rw [strs_app, ← List.replicate_succ']

theorem closed_setO {ss : Txs} {n : Nat} {t : Tx} (hl : ss.length = n + 1) (ht : ss[n]? = some t) (ho : openB ss = true) : closed ss = ss.set n (t ++ [10]) := by
  have hg : ss.getLast? = some t := by rw [List.getLast?_eq_getElem?, hl]; exact ht
  unfold closed openB at *
  rw [hg] at ho ⊢
  dsimp only at ho ⊢
  rw [if_neg (by simpa using ho)]
  apply List.ext_getElem?
  intro i
  rw [List.getElem?_set]
  rcases Nat.lt_trichotomy i n with h | h | h
  · rw [List.getElem?_append_left (by rw [List.length_dropLast]; omega), List.getElem?_dropLast, if_pos (by omega), if_neg (by omega)]
  · subst h
    rw [List.getElem?_append_right (by rw [List.length_dropLast]; omega), List.length_dropLast, if_pos rfl, if_pos (by omega)]
    rw [hl, Nat.add_sub_cancel, Nat.sub_self]
    rfl
  · rw [List.getElem?_eq_none (by rw [List.length_append, List.length_dropLast, List.length_singleton]; omega), if_neg (by omega), List.getElem?_eq_none (by omega)]

theorem TxO.call {w wr w1 : World} {v : Value} {xs : Txs} (h : TxO w wr v xs) (hb : Below wr.heap.size wr w1) : TxO w w1 v xs :=
  ⟨ownsRow_kept h.own fun k e => hb.block k (h.own.lt k e).2, h.below.trans (hb.mono h.below.size)⟩
theorem own_lower {w : World} {b1 b2 n : Nat} {e : TypeId} {size : Nat} {v : Value} {xs : List Value} (h : w.ownsRow b1 e size v n xs) (hb : b2 ≤ b1) : w.ownsRow b2 e size v n xs := by
  refine ⟨h.1, ?_⟩
  rcases h.2 with h | ⟨g, cap, cur, e1, h2, r⟩
  · exact .inl h
  · exact .inr ⟨g, cap, cur, e1, Nat.le_trans hb h2, r⟩
theorem TxO.lit (w : World) (s : Tx) : TxO w (w.alloc (.cells #[.string (str s)] 9)) (.slice (some ⟨w.heap.size, 0, none⟩) 1 1) [s] :=
  ⟨World.ownsRow_lit w #[.string (str s)] 1 (Nat.le_refl _) (by decide) rfl, below_alloc (Below.refl _ _) _⟩
theorem sides_len : ∀ (ds : List Txs) (long : Nat) (ahead : Txs) (n : Nat), (sidesM long ahead n ds).length = ds.flatten.length + ds.length + 1
  | [], _, _, _ => rfl
  | d :: ds, long, ahead, n => by
    unfold sidesM
    rw [List.length_cons, List.length_append, closed_len, sides_len ds, List.flatten_cons, List.length_append, List.length_cons]; omega
theorem flatM_len {ds : List Txs} (h : ∀ d ∈ ds, d.length ≤ 10000) : ds.flatten.length ≤ ds.length * 10000 := by
  induction ds with
  | nil => simp
  | cons d ds ih =>
    have := ih fun e he => h e (List.mem_cons_of_mem _ he)
    have := h d (List.mem_cons_self ..)
    rw [List.flatten_cons, List.length_append, List.length_cons]
    omega
theorem conf_len {style : Int} {long : Nat} {bs : Txs} {ds : List Txs} (h : ∀ d ∈ bs :: ds, d.length ≤ 10000) : (confM style long bs ds).length ≤ (ds.length + 2) * 10001 := by
  cases ds with
  | nil => simp [confM]
  | cons f ds =>
    have h1 := flatM_len (ds := ds) fun d hd => h d (List.mem_cons_of_mem _ (List.mem_cons_of_mem _ hd))
    have h2 := h bs (List.mem_cons_self ..)
    have h3 := h f (by simp)
    unfold confM
    rw [List.length_cons, List.length_append, closed_len]
    split
    · rw [sides_len, List.length_cons]; omega
    · rw [List.length_cons, List.length_append, closed_len, sides_len, List.length_cons]; omega
theorem conf_split (style : Int) (long : Nat) (bs f : Txs) (ds : List Txs) : confM style long bs (f :: ds) = if style = 1 then ([markT 60 long [] [32, 49]] ++ closed f) ++ sidesM long f 2 ds else (([markT 60 long [] [32, 49]] ++ closed f) ++ [markT 124 long f [32, 98, 97, 115, 101]] ++ closed bs) ++ sidesM long bs 2 ds := by
  by_cases h : style = 1
  · rw [if_pos h]; unfold confM; simp [h]
  · rw [if_neg h]; unfold confM; simp [h]
end Go.Proofs.YtcpopnhnihbofaaGreatDoor
