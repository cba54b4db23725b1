/- Proved here: texts joined: UmEnd. -/
import Derived.Test.YtcpopnhnihbofaaDoorBd32
import Derived.Deep.RegionLaw
/- Proved here: the landed reader's end: a conflict becomes a piece. -/
namespace Go.Proofs.YtcpopnhnihbofaaDoor
open Go.RowKit
set_option linter.unusedVariables false
set_option maxRecDepth 100000

section
variable {w wr : World} {L long : Nat} {st : Int} {nx vp vq u : Value} {qs : List (PcV × Pc)} {ps : List (Slc × Txs)} {tx cf : Bool} {cur : Txs}
/-- The parts that were read stand, whatever becomes of the reader, and of the rows of pieces and parts. -/
theorem Rd.parts {r : Slc} (h : Rd w wr L long st nx vp vq u qs ps false true cur) (hu : u = slcV r) : ∀ w2, But (fun k => k = L ∨ vp.ownBlock = some k ∨ vq.ownBlock = some k) wr w2 → ∀ p ∈ psF ps true r cur, TxR w2 w2.heap.size p.1 p.2 := by
  intro w2 hb p hp
  rcases List.mem_append.1 hp with hp | hp
  · exact h.prow w2 (hb.more fun k e => Or.elim e .inl fun e => .inr (Or.elim e .inl fun e => .inr (.inl e))) p hp
  · rw [List.mem_singleton.1 hp]
    obtain ⟨A, c, e, hst⟩ := h.open_
    have : r = (A, cur.length, c) := by
      rw [hu] at e
      obtain ⟨r1, r2, r3⟩ := r
      unfold slcV at e
      injection e with e1 e2 e3
      dsimp only at e1 e2 e3
      rw [e1, e2, e3]
    rw [this]
    refine hst _ w2 (fun k e hk => ?_) hb
    rcases hk with hk | hk | hk
    · exact h.uL (by rw [← hk]; exact e)
    · exact h.pu k hk e
    · exact h.qu k hk e
theorem slc_row {F : Nat → Prop} {W1 w3 : World} {G n c : Nat} {sides : List (Slc × Txs)} (hn : sides.length = n) (hnc : n ≤ c) (hcm : c ≤ maxLen) (hG : G < W1.heap.size) (hF : ¬ F G) (hb : But F W1 w3) (hcells : ∀ j x, (sides.map fun p => slcV p.1)[j]? = some x → W1.cell? ⟨G, j, none⟩ = some x)
    (heach : ∀ p ∈ sides, TxR w3 w3.heap.size p.1 p.2) : SlcR w3 w3.heap.size (some ⟨G, 0, none⟩, n, c) (sides.map fun p => p.2) := by
  refine ⟨hnc, hcm, sides.map fun p => p.1, ⟨by simp [hn], fun h0 => ⟨G, 0, rfl, Nat.lt_of_lt_of_le hG hb.size, fun j x hx => ?_⟩⟩, by simp, fun k r ss a b => ?_⟩
  · rw [List.map_map] at hx
    rw [Nat.zero_add]
    exact (World.cell?_of_block (w := W1) (hb.block G hG hF)).trans (hcells j x hx)
  · rw [List.getElem?_map] at a b
    cases hp : sides[k]? with
    | none => rw [hp] at a; cases a
    | some p =>
      rw [hp] at a b
      simp at a b
      rw [← a, ← b]
      exact heach p (List.mem_of_getElem? hp)
theorem Rd.end_at {W1 w2 : World} {vp' : Value} {G N cap n : Nat} {base : Slc × Txs} {sides : List (Slc × Txs)} {r : Slc} (h : Rd w wr L long st nx vp (.slice (some ⟨G, 0, none⟩) N cap) u qs ps false true cur) (nx' : Value) (hb1 : But (fun k => k = G) wr W1) (hn : sides.length = n) (hnN : n ≤ N)
    (hcells : ∀ j x, (sides.map fun p => slcV p.1)[j]? = some x → W1.cell? ⟨G, j, none⟩ = some x) (hu : u = slcV r) (hbase : base = ((none, 0, 0), []) ∨ base ∈ psF ps true r cur) (hsides : ∀ p ∈ sides, p ∈ psF ps true r cur)
    (hown : w2.ownsRow w.heap.size 37 4 vp' (qs.length + 1) (pcCs qs ++ pcC true ((none, 0, 0), base.1, (some ⟨G, 0, none⟩, n, cap)))) (hg : W1.grownBy w2 vp.ownBlock) (hloc : vp'.ownBlock = vp.ownBlock ∨ vp'.ownBlock = some W1.heap.size) :
    (∀ k, w2.frozen? ⟨L, k, none⟩ = false) ∧ ((∃ x, w2.cell? ⟨L, 1, none⟩ = some x) ∧ (∃ x, w2.cell? ⟨L, 2, none⟩ = some x) ∧ (∃ x, w2.cell? ⟨L, 4, none⟩ = some x)) ∧ Rd w (((w2.setCell ⟨L, 1, none⟩ vp').setCell ⟨L, 2, none⟩ (.slice none 0 0)).setCell ⟨L, 4, none⟩ nx') L long st nx' vp' (.slice none 0 0) (.slice none 0 0) (qs ++ [(((none, 0, 0), base.1, (some ⟨G, 0, none⟩, n, cap)), cPc base.2 (sides.map fun p => p.2))]) [] false false [] := by
  have e0 : (Value.slice (some ⟨G, 0, none⟩) N cap).ownBlock = some G := rfl
  obtain ⟨A', c', e', k1, k2, -⟩ := own_slice h.qown
  injection e' with _ e2 e3
  rw [← e2, ← e3] at k1
  rw [← e3] at k2
  have hGl := (h.qown.lt G e0).2
  have hb1' : But (fun k => (Value.slice (some ⟨G, 0, none⟩) N cap).ownBlock = some k) wr W1 := hb1.more fun k e => by rw [e0, e]
  refine h.end_ (p := cPc base.2 (sides.map fun p => p.2)) nx' hb1' (fun w3 h3 => ?_) hown hg hloc
  have hb3 : But (fun k => k = L ∨ vp.ownBlock = some k ∨ (Value.slice (some ⟨G, 0, none⟩) N cap).ownBlock = some k) wr w3 := (hb1'.more (F' := fun k => k = L ∨ vp.ownBlock = some k ∨ (Value.slice (some ⟨G, 0, none⟩) N cap).ownBlock = some k) fun k e => .inr (.inr e)).trans h3 fun k e => .inl (Or.elim e .inl fun e => .inr (.inl e))
  have hall := h.parts hu w3 hb3
  refine PcR.conf ?_ (slc_row hn (by omega) k2 (Nat.lt_of_lt_of_le hGl hb1.size) (fun e => Or.elim e (fun e => h.qL (by rw [e0, e])) fun e => h.pq G e e0) h3 hcells fun p hp => hall p (hsides p hp))
  rcases hbase with hb | hb
  · rw [hb]
    exact TxR.nil _ _
  · exact hall base hb

theorem cell_new4 (w : World) (a b c d : Value) (t : TypeId) : ∀ j u, [a, b, c, d][j]? = some u → (w.alloc (.cells #[a, b, c, d] t)).cell? ((⟨w.heap.size, 0, none⟩ : Addr).add j) = some u := by
  intro j u hu
  rw [addr_add, cells_of (one_a w _)]
  simpa using hu
set_option maxHeartbeats 4000000 in
theorem end_plain (h : Rd w wr L long st nx vp vq u qs ps false true cur) (hst : st ≠ 2) (hqs : qs.length ≤ 100000000) :
    Calls Tryd.prog 52 #[.pointer (some ⟨L, 0, none⟩)] wr fun e w' => e = .returned (.tuple #[]) ∧ ∃ vp' r, Rd w w' L long st (mvR 16 L) vp' (.slice none 0 0) (.slice none 0 0) (qs ++ [(r, cPc [] ((ps.map fun p => p.2) ++ [cur]))]) [] false false [] := by
  obtain ⟨j0, hj, hyy⟩ := Option.map_eq_some_iff.1 infoPc
  simp only [Prod.mk.injEq] at hyy
  obtain ⟨hy0, hy1, hy2⟩ := hyy
  obtain ⟨M, hM⟩ : ∃ M, qs.length = M := ⟨_, rfl⟩
  have hmax : Hid (M + 1 ≤ maxLen ∧ (M + 1) * 80 ≤ 140737488355328) := Lib.hid ⟨by unfold maxLen; omega, by omega⟩
  obtain ⟨m, hm⟩ : ∃ m, ps.length = m := ⟨_, rfl⟩
  obtain ⟨N, hN⟩ : ∃ N, m + 1 = N := ⟨_, rfl⟩
  obtain ⟨G, cap, rfl, -⟩ := h.last_part hm
  rw [hN] at h
  obtain ⟨A, c, hu, -⟩ := h.open_
  have x2 := h.cells.2.2.1
  have x3 := h.cells.2.2.2.1
  have x1 := h.cells.2.1
  have hs : (st == 2) = false := by rw [beq_eq_false_iff_ne]; exact hst
  obtain ⟨W0, hW0⟩ : ∃ W0, W0 = wr.alloc (.cells #[.bool true, .slice none 0 0, .slice none 0 0, .slice (some ⟨G, 0, none⟩) N cap] 37) := ⟨_, rfl⟩
  have hB0 : Below wr.heap.size wr W0 := by rw [hW0]; exact below_alloc (Below.refl _ _) _
  obtain ⟨y0, y1, y2, y3, -⟩ : W0.cell? ⟨wr.heap.size, 0, none⟩ = some (.bool true) ∧ W0.cell? ⟨wr.heap.size, 1, none⟩ = some (.slice none 0 0) ∧ W0.cell? ⟨wr.heap.size, 2, none⟩ = some (.slice none 0 0) ∧ W0.cell? ⟨wr.heap.size, 3, none⟩ = some (.slice (some ⟨G, 0, none⟩) N cap) ∧ True := by
    have hw : W0.heap[wr.heap.size]? = some (.cells #[.bool true, .slice none 0 0, .slice none 0 0, .slice (some ⟨G, 0, none⟩) N cap] 37 (0, 0)) := by rw [hW0]; exact one_a wr _
    exact ⟨(cells_of hw 0).trans rfl, (cells_of hw 1).trans rfl, (cells_of hw 2).trans rfl, (cells_of hw 3).trans rfl, trivial⟩
  have z1 : W0.cell? ⟨L, 1, none⟩ = some vp := (h.up hB0).cells.2.1
  have z3 : W0.cell? ⟨L, 3, none⟩ = some (.int .i64 st) := (h.up hB0).cells.2.2.2.1
  have hB1 : Below wr.heap.size wr (W0.drew.alloc (.cells #[.bool true, .slice none 0 0, .slice none 0 0, .slice (some ⟨G, 0, none⟩) N cap] 37)) := below_alloc (below_drew hB0) _
  have hownd : W0.drew.ownsRow w.heap.size 37 4 vp M (pcCs qs) := by
    have := (h.up (below_drew hB0)).pown
    rw [show qs.length + nB false = M from hM, show pcCs qs ++ tC false u = pcCs qs from List.append_nil _] at this
    exact this
  have hso : w.heap.size ≤ W0.heap.size := by have := h.below.size; have := hB0.size; omega
  have hLl : L < W0.heap.size := Nat.lt_of_lt_of_le h.lt hB0.size
  have hfin : Hid (∀ (v' : Value) (w2 : World), w2.ownsRow w.heap.size 37 4 v' (M + 1) (pcCs qs ++ pcC true ((none, 0, 0), (none, 0, 0), (some ⟨G, 0, none⟩, N, cap))) → (W0.drew.alloc (.cells #[.bool true, .slice none 0 0, .slice none 0 0, .slice (some ⟨G, 0, none⟩) N cap] 37)).grownBy w2 vp.ownBlock → (v'.ownBlock = vp.ownBlock ∨ v'.ownBlock = some (W0.drew.alloc (.cells #[.bool true, .slice none 0 0, .slice none 0 0, .slice (some ⟨G, 0, none⟩) N cap] 37)).heap.size) →
      (w2.frozen? ⟨L, 1, none⟩ = false ∧ w2.frozen? ⟨L, 2, none⟩ = false ∧ w2.frozen? ⟨L, 4, none⟩ = false) ∧ ((∃ x, w2.cell? ⟨L, 1, none⟩ = some x) ∧ (∃ x, w2.cell? ⟨L, 2, none⟩ = some x) ∧ (∃ x, w2.cell? ⟨L, 4, none⟩ = some x)) ∧
      ∃ r, Rd w (((w2.setCell ⟨L, 1, none⟩ v').setCell ⟨L, 2, none⟩ (.slice none 0 0)).setCell ⟨L, 4, none⟩ (mvR 16 L)) L long st (mvR 16 L) v' (.slice none 0 0) (.slice none 0 0) (qs ++ [(r, cPc [] ((ps.map fun p => p.2) ++ [cur]))]) [] false false []) := Lib.hid (fun v' w2 h1 h2 h3 => by
    rw [← hM] at h1
    have hsl : (psF ps true (A, cur.length, c) cur).length = N := by rw [(psF_cells _).2, hm, ← hN]; rfl
    have hq := (h.up hB1).qown
    rw [show ps.length + nB true = N by rw [hm, ← hN]; rfl] at hq
    obtain ⟨k1, k2, k3⟩ := h.end_at (base := ((none, 0, 0), [])) (sides := psF ps true (A, cur.length, c) cur) (r := (A, cur.length, c)) (mvR 16 L) (But.of_below hB1 fun k hk _ => hk) hsl (Nat.le_refl _) (fun j x hx => by
      rw [(psF_cells _).1] at hx
      rw [hq.cellAt j (by have := (List.getElem?_eq_some_iff.1 hx).1; simp [cC, hm] at this; omega), hu]
      exact hx) hu (.inl rfl) (fun p hp => hp) h1 h2 h3
    have e : (psF ps true (A, cur.length, c) cur).map (fun p => p.2) = (ps.map fun p => p.2) ++ [cur] := by simp [psF]
    rw [e] at k3
    exact ⟨⟨k1 1, k1 2, k1 4⟩, k2, _, k3⟩)
  have hW0h := Lib.hid hW0
  clear h hst hqs hM hm hN hu hW0 hB0 hB1
  unfold mvR at hfin ⊢
  go_enter Tryd.func52, Tryd.ntmps52
  go_upto_region 1 with fail
  rw [← hW0h.out]
  go_upto_region 4 with fail
  go_region_law (refine step_append_own rfl (.tmp 30) (.tmp 32) 25 rfl w.heap.size 37 j0 (.agg #[.bool false, .slice none 0 0, .slice none 0 0, .slice none 0 0]) 4 80 Tryd.underlying25 hj hy0 hy1 hy2 rfl (by decide) vp M _ (by simp [Act.eval]) (hownd.alloc _) ⟨W0.heap.size, 0, none⟩ 1 1 (pcC true ((none, 0, 0), (none, 0, 0), (some ⟨G, 0, none⟩, N, cap))) (by simp [Act.eval]) rfl (cell_new4 _ _ _ _ _ _) (pcC_one _ _) hmax.out.1 hmax.out.2 (by simp; omega) ?_; intro v' w2 hown2 hg2 hloc2; obtain ⟨⟨f1, f2, f4⟩, ⟨⟨g1, a1⟩, ⟨g2, a2⟩, ⟨g4, a4⟩⟩, r, hR⟩ := hfin.out v' w2 hown2 hg2 hloc2; have hRh := Lib.hid hR; obtain ⟨g9, c9, rfl⟩ := ownsRow_succ hown2; clear hown2 hg2 hloc2 hR)
  all_goals
    go_wp2
    go_end0
    exact ⟨rfl, _, r, hRh.out⟩
end
end Go.Proofs.YtcpopnhnihbofaaDoor
