/- Proved here: texts joined: UmEnd2. -/
import Derived.Test.YtcpopnhnihbofaaGreatDoorBe25
/- Proved here: the landed reader's end, where the conflict has a base. -/
namespace Go.Proofs.YtcpopnhnihbofaaGreatDoor
open Go.RowKit
set_option linter.unusedVariables false
set_option maxRecDepth 100000

theorem slcV_cell : Go.Proofs.OneCell slcV := fun r => rfl
theorem But.ahead {F : Nat → Prop} (W : World) (q : Nat) : But F W (Go.Sort.ahead W q) := ⟨rfl, rfl, rfl, Nat.le_refl _, fun _ _ _ => rfl⟩
theorem But.putRow {α : Type} [Inhabited α] (enc : α → Value) (W : World) (G off : Nat) (d : Array α) : But (fun k => k = G) W (Go.Sort.putRow enc W G off d) := by
  refine ⟨rfl, rfl, rfl, ?_, fun k hk hn => ?_⟩
  · show W.heap.size ≤ (W.heap.modify G _).size
    rw [Array.size_modify]
    exact Nat.le_refl _
  · show (W.heap.modify G _)[k]? = _
    rw [Array.getElem?_modify, if_neg (fun e => hn e.symm)]
theorem del_any {W : World} {base G N cap : Nat} {a b : Slc} {r : List Slc} (hown : W.ownsRow base 25 1 (.slice (some ⟨G, 0, none⟩) N cap) N ((a :: b :: r).map slcV)) :
    Calls Tryz.prog 114 #[.slice (some ⟨G, 0, none⟩) N cap, .int .i64 1, .int .i64 2] W fun e w' => e = .returned (.slice (some ⟨G, 0, none⟩) (N - 1) cap) ∧ But (fun k => k = G) W w' ∧ ∀ j x, ((a :: r).map slcV)[j]? = some x → w'.cell? ⟨G, j, none⟩ = some x := by
  obtain ⟨i0, hi, hzz⟩ := Option.map_eq_some_iff.1 infoTxs
  simp only [Prod.mk.injEq] at hzz
  have hN : (a :: b :: r).toArray.size = N := by
    have := hown.1
    simp at this
    simp
    omega
  obtain ⟨A', c', e', k1, k2, -⟩ := own_slice hown
  injection e' with _ e2 e3
  rw [← e3] at k1 k2
  have hget : ∀ j x, (a :: b :: r)[j]? = some x → (a :: b :: r).toArray[j]! = x := fun j x hx => by
    have hl : j < (a :: b :: r).toArray.size := by rw [List.size_toArray]; exact (List.getElem?_eq_some_iff.1 hx).1
    rw [getElem!_pos (a :: b :: r).toArray j hl, List.getElem_toArray]
    exact (List.getElem?_eq_some_iff.1 hx).2
  have hH : Go.Sort.Holds slcV W G 0 (a :: b :: r).toArray := fun j hj => by
    rw [Nat.zero_add]
    refine ⟨?_, hown.frozenAt j⟩
    have hx : (a :: b :: r)[j]? = some ((a :: b :: r)[j]'(by simpa using hj)) := List.getElem?_eq_getElem _
    rw [hown.cellAt j (by omega), List.getElem?_map, hx, hget j _ hx]
    rfl
  have h := Tryz.slices_Delete slcV slcV_cell (none, 0, 0) Tryz.zeroValue25 i0 hi hzz.2.1 G 0 cap 1 2 (a :: b :: r).toArray W hH (by omega) (by unfold maxLen at k2; omega) (by omega) (by simp)
  rw [hN] at h
  refine h.mono ?_
  rintro e w' ⟨rfl, q, rfl⟩
  have hd : ((a :: b :: r).toArray.toList.take 1 ++ (a :: b :: r).toArray.toList.drop 2 ++ List.replicate (2 - 1) ((none, 0, 0) : Slc)).toArray = (a :: r ++ [((none, 0, 0) : Slc)]).toArray := by simp
  rw [hd]
  refine ⟨rfl, (But.ahead W q).trans (But.putRow slcV _ G 0 _) fun k e => .inl e, fun j x hx => ?_⟩
  have hj : j < (a :: r).length := by simpa using (List.getElem?_eq_some_iff.1 hx).1
  have := Go.Sort.cell?_putRow slcV (Go.Sort.ahead W q) G 0 (a :: b :: r).toArray (a :: r ++ [((none, 0, 0) : Slc)]).toArray (Go.Sort.holds_ahead slcV W q G 0 _ hH) (by simp) j (by simp at hj ⊢; omega)
  rw [Nat.zero_add] at this
  rw [this, getElem!_pos _ j (by simp at hj ⊢; omega)]
  rw [List.getElem?_map] at hx
  rw [← hx]
  rw [List.getElem?_eq_getElem hj]
  show some (slcV ((a :: r ++ [((none, 0, 0) : Slc)]).toArray[j]'_) : Value) = some (slcV _)
  rw [List.getElem_toArray, List.getElem_append_left hj]
theorem cells4_set {W : World} {L : Nat} {a b c d : Value} {t : TypeId} (v' : Value) (h : W.heap[L]? = some (.cells #[a, b, c, d] t (0, 0))) :
    (W.setCell ⟨L, 2, none⟩ v').heap[L]? = some (.cells #[a, b, v', d] t (0, 0)) ∧ (W.setCell ⟨L, 3, none⟩ v').heap[L]? = some (.cells #[a, b, c, v'] t (0, 0)) := by
  obtain ⟨hlt, hk⟩ := Array.getElem?_eq_some_iff.1 h
  refine ⟨?_, ?_⟩
  all_goals
    show (W.heap.modify L _)[L]? = _
    rw [Array.getElem?_eq_getElem (by rw [Array.size_modify]; exact hlt), Array.getElem_modify_self, hk]
    rfl
theorem cells4_at {W : World} {L : Nat} {a b c d : Value} {t : TypeId} (h : W.heap[L]? = some (.cells #[a, b, c, d] t (0, 0))) : W.cell? ⟨L, 0, none⟩ = some a ∧ W.cell? ⟨L, 1, none⟩ = some b ∧ W.cell? ⟨L, 2, none⟩ = some c ∧ W.cell? ⟨L, 3, none⟩ = some d ∧ ∀ k, W.frozen? ⟨L, k, none⟩ = false :=
  ⟨(cells_of h 0).trans rfl, (cells_of h 1).trans rfl, (cells_of h 2).trans rfl, (cells_of h 3).trans rfl, unfrozen_of h⟩

section
variable {w wr : World} {L long : Nat} {nx vp vq u : Value} {qs : List (PcV × Pc)} {ps : List (Slc × Txs)} {cur : Txs}
set_option maxHeartbeats 8000000 in
theorem end_base {f : Txs} {b : Txs} {rest : List Txs} (h : Rd w wr L long 2 nx vp vq u qs ps false true cur) (hall : (ps.map fun p => p.2) ++ [cur] = f :: b :: rest) (hps : ps.length ≤ 1000) (hqs : qs.length ≤ 100000000) :
    Calls Tryz.prog 103 #[.pointer (some ⟨L, 0, none⟩)] wr fun e w' => e = .returned (.tuple #[]) ∧ ∃ vp' r, Rd w w' L long 2 (mvR 28 L) vp' (.slice none 0 0) (.slice none 0 0) (qs ++ [(r, cPc b (f :: rest))]) [] false false [] := by
  obtain ⟨j0, hj, hyy⟩ := Option.map_eq_some_iff.1 infoPc
  simp only [Prod.mk.injEq] at hyy
  obtain ⟨hy0, hy1, hy2⟩ := hyy
  obtain ⟨M, hM⟩ : ∃ M, qs.length = M := ⟨_, rfl⟩
  have hmax : Hid (M + 1 ≤ maxLen ∧ (M + 1) * 80 ≤ 140737488355328) := Lib.hid ⟨by unfold maxLen; omega, by omega⟩
  obtain ⟨m, hm⟩ : ∃ m, ps.length = m := ⟨_, rfl⟩
  obtain ⟨N, hN⟩ : ∃ N, m + 1 = N := ⟨_, rfl⟩
  obtain ⟨G, cap, rfl, -⟩ := h.last_part hm
  rw [hN] at h
  obtain ⟨A, c, hu, -⟩ := h.open_
  -- the parts, with their slices
  obtain ⟨pf, pb, pr, hsp, ef, eb, er⟩ : ∃ pf pb pr, psF ps true (A, cur.length, c) cur = pf :: pb :: pr ∧ pf.2 = f ∧ pb.2 = b ∧ pr.map (fun p => p.2) = rest := by
    have e : (psF ps true (A, cur.length, c) cur).map (fun p => p.2) = f :: b :: rest := by rw [← hall]; simp [psF]
    cases hq : psF ps true (A, cur.length, c) cur with
    | nil => rw [hq] at e; simp at e
    | cons pf t =>
      cases t with
      | nil => rw [hq] at e; simp at e
      | cons pb pr =>
        rw [hq] at e
        simp at e
        exact ⟨pf, pb, pr, rfl, e.1, e.2.1, e.2.2⟩
  have hsl : (pf :: pb :: pr).length = N := by rw [← hsp, (psF_cells _).2, hm, ← hN]; rfl
  obtain ⟨N1, hN1⟩ : ∃ N1, N - 1 = N1 := ⟨_, rfl⟩
  have hN1s : (pf :: pr).length = N1 := by rw [← hN1, ← hsl]; rfl
  have hNge : 2 ≤ N := by rw [← hsl]; simp
  have hcs : (ps.map fun p => slcV p.1) ++ cC true u = (pf.1 :: pb.1 :: pr.map fun p => p.1).map slcV := by
    rw [hu, show (.slice A cur.length c : Value) = slcV (A, cur.length, c) from rfl, ← (psF_cells _).1, hsp]
    simp
  have hGlt := (h.qown.lt G rfl).2
  obtain ⟨P, hP⟩ : ∃ P, P = wr.heap.size := ⟨_, rfl⟩
  have hPG : P ≠ G := by omega
  have x2 := h.cells.2.2.1
  obtain ⟨W0, hW0⟩ : ∃ W0, W0 = wr.alloc (.cells #[.bool true, .slice none 0 0, .slice none 0 0, .slice (some ⟨G, 0, none⟩) N cap] 40) := ⟨_, rfl⟩
  have hB0 : Below wr.heap.size wr W0 := by rw [hW0]; exact below_alloc (Below.refl _ _) _
  have hP0 : W0.heap[P]? = some (.cells #[.bool true, .slice none 0 0, .slice none 0 0, .slice (some ⟨G, 0, none⟩) N cap] 40 (0, 0)) := by rw [hW0, hP]; exact one_a wr _
  have h0 := h.up hB0
  have z2 := h0.cells.2.2.1
  have z3 := h0.cells.2.2.2.1
  have hq0 := h0.qown
  rw [show ps.length + nB true = N by rw [hm, ← hN]; rfl, hcs] at hq0
  have xb0 : W0.cell? ⟨G, 1, none⟩ = some (slcV pb.1) := by rw [hq0.cellAt 1 (by omega)]; rfl
  obtain ⟨⟨Ab, nb, cb⟩, hpb⟩ : ∃ rb, pb.1 = rb := ⟨_, rfl⟩
  have xb : W0.cell? ⟨G, 1, none⟩ = some (.slice Ab nb cb) := by rw [xb0, hpb]; rfl
  clear xb0
  have hwl : P ≤ wr.heap.size := Nat.le_of_eq hP
  -- the base is told
  obtain ⟨WA, hWA⟩ : ∃ WA, WA = W0.setCell ⟨P, 2, none⟩ (.slice Ab nb cb) := ⟨_, rfl⟩
  have hBA : But (fun k => k = P) W0 WA := by rw [hWA]; exact But.setL (F := fun k => k = P) rfl _ _
  have hBA' : Below wr.heap.size wr WA := hB0.trans (hBA.below hB0.size (by rintro k rfl; omega))
  have hPA : WA.heap[P]? = some (.cells #[.bool true, .slice none 0 0, .slice Ab nb cb, .slice (some ⟨G, 0, none⟩) N cap] 40 (0, 0)) := by rw [hWA]; exact (cells4_set _ hP0).1
  have hqA : WA.ownsRow w.heap.size 25 1 (.slice (some ⟨G, 0, none⟩) N cap) N ((pf.1 :: pb.1 :: pr.map fun p => p.1).map slcV) := by
    have := (h.up hBA').qown
    rw [show ps.length + nB true = N by rw [hm, ← hN]; rfl, hcs] at this
    exact this
  have a2 := (h.up hBA').cells.2.2.1
  have hDel := Lib.hid (del_any hqA)
  rw [hN1] at hDel
  have hWAh := Lib.hid hWA
  have hW0h := Lib.hid hW0
  have y2 : ∃ x, W0.cell? ⟨P, 2, none⟩ = some x := ⟨_, (cells4_at hP0).2.2.1⟩
  obtain ⟨x9, y2⟩ := y2
  have f2 := (cells4_at hP0).2.2.2.2 2
  have j1 : (1 : Int) < (N : Int) := by omega
  -- behind the cut
  have hcut : Hid (∀ w1 : World, But (fun k => k = G) WA w1 → (∀ j x, ((pf.1 :: pr.map fun p => p.1).map slcV)[j]? = some x → w1.cell? ⟨G, j, none⟩ = some x) → (w1.frozen? ⟨P, 3, none⟩ = false ∧ ∃ x, w1.cell? ⟨P, 3, none⟩ = some x) ∧ ∃ WB, WB = w1.setCell ⟨P, 3, none⟩ (.slice (some ⟨G, 0, none⟩) N1 cap) ∧
      (WB.cell? ⟨P, 0, none⟩ = some (.bool true) ∧ WB.cell? ⟨P, 1, none⟩ = some (.slice none 0 0) ∧ WB.cell? ⟨P, 2, none⟩ = some (.slice Ab nb cb) ∧ WB.cell? ⟨P, 3, none⟩ = some (.slice (some ⟨G, 0, none⟩) N1 cap)) ∧ WB.cell? ⟨L, 1, none⟩ = some vp ∧ L < WB.heap.size ∧ w.heap.size ≤ WB.heap.size ∧ P < WB.heap.size ∧ WB.drew.ownsRow w.heap.size 40 4 vp M (pcCs qs) ∧
      ∀ (v' : Value) (w2 : World), w2.ownsRow w.heap.size 40 4 v' (M + 1) (pcCs qs ++ pcC true ((none, 0, 0), (Ab, nb, cb), (some ⟨G, 0, none⟩, N1, cap))) → (WB.drew.alloc (.cells #[.bool true, .slice none 0 0, .slice Ab nb cb, .slice (some ⟨G, 0, none⟩) N1 cap] 40)).grownBy w2 vp.ownBlock → (v'.ownBlock = vp.ownBlock ∨ v'.ownBlock = some (WB.drew.alloc (.cells #[.bool true, .slice none 0 0, .slice Ab nb cb, .slice (some ⟨G, 0, none⟩) N1 cap] 40)).heap.size) →
        (w2.frozen? ⟨L, 1, none⟩ = false ∧ w2.frozen? ⟨L, 2, none⟩ = false ∧ w2.frozen? ⟨L, 4, none⟩ = false) ∧ ((∃ x, w2.cell? ⟨L, 1, none⟩ = some x) ∧ (∃ x, w2.cell? ⟨L, 2, none⟩ = some x) ∧ (∃ x, w2.cell? ⟨L, 4, none⟩ = some x)) ∧
        ∃ r, Rd w (((w2.setCell ⟨L, 1, none⟩ v').setCell ⟨L, 2, none⟩ (.slice none 0 0)).setCell ⟨L, 4, none⟩ (mvR 28 L)) L long 2 (mvR 28 L) v' (.slice none 0 0) (.slice none 0 0) (qs ++ [(r, cPc b (f :: rest))]) [] false false []) := Lib.hid (fun w1 hb1 hc1 => by
    have hP1 := (hb1.block P (Array.getElem?_eq_some_iff.1 hPA).1 hPG).trans hPA
    refine ⟨⟨(cells4_at hP1).2.2.2.2 3, _, (cells4_at hP1).2.2.2.1⟩, _, rfl, ?_⟩
    have hBS : But (fun k => k = P) w1 (w1.setCell ⟨P, 3, none⟩ (.slice (some ⟨G, 0, none⟩) N1 cap)) := But.setL (F := fun k => k = P) rfl _ _
    have hPB := (cells4_set (.slice (some ⟨G, 0, none⟩) N1 cap) hP1).2
    obtain ⟨WB, hWB⟩ : ∃ WB, WB = w1.setCell ⟨P, 3, none⟩ (.slice (some ⟨G, 0, none⟩) N1 cap) := ⟨_, rfl⟩
    rw [← hWB] at hBS hPB ⊢
    have hAll : But (fun k => k = G) wr WB := ((But.of_below (F := fun k => k = G) hBA' fun k hk _ => hk).trans hb1 fun k e => .inl e).trans hBS fun k e => .inr (by omega)
    have hLG : L ≠ G := fun e => h.qL (by rw [e]; rfl)
    have hLs := hAll.size
    have hLt := h.lt
    have hlow := h.below.size
    have hatB := (hAll.block L h.lt hLG).trans h.at_
    have hpB : WB.ownsRow w.heap.size 40 4 vp M (pcCs qs) := by
      have := ownsRow_kept h.pown fun k e => hAll.block k (h.pown.lt k e).2 (fun e2 => h.pq k e (by rw [e2]; rfl))
      rw [show qs.length + nB false = M from hM, show pcCs qs ++ tC false u = pcCs qs from List.append_nil _] at this
      exact this
    refine ⟨⟨(cells4_at hPB).1, (cells4_at hPB).2.1, (cells4_at hPB).2.2.1, (cells4_at hPB).2.2.2.1⟩, (cells_of hatB 1).trans rfl, by omega, by omega, (Array.getElem?_eq_some_iff.1 hPB).1, hpB, fun v' w2 h1 h2 h3 => ?_⟩
    rw [← hM] at h1
    have hbD : But (fun k => k = G) wr (WB.drew.alloc (.cells #[.bool true, .slice none 0 0, .slice Ab nb cb, .slice (some ⟨G, 0, none⟩) N1 cap] 40)) := hAll.trans (But.of_below (F := fun k => k = G) (below_alloc (below_drew (Below.refl WB.heap.size WB)) _) fun k hk _ => hk) fun k e => .inl e
    obtain ⟨k1, k2, k3⟩ := h.end_at (base := ((Ab, nb, cb), b)) (sides := pf :: pr) (r := (A, cur.length, c)) (mvR 28 L) hbD hN1s (by omega) (fun j x hx => by
      have hx2 := hc1 j x (by rw [List.map_cons, List.map_map]; exact hx)
      rw [← hx2]
      refine (World.cell?_of_block (w := w1) (a := ⟨G, j, none⟩) ?_)
      refine ((below_alloc (below_drew (Below.refl WB.heap.size WB)) _).block G ?_).trans (hBS.block G ?_ (fun e => hPG e.symm))
      · omega
      · have := hb1.size; have := hBA'.size; omega) hu (.inr (by rw [hsp, ← hpb, ← eb]; exact List.mem_cons_of_mem _ (List.mem_cons_self ..))) (fun p hp => by
      rw [hsp]
      rcases List.mem_cons.1 hp with rfl | hp
      · exact List.mem_cons_self ..
      · exact List.mem_cons_of_mem _ (List.mem_cons_of_mem _ hp)) h1 h2 h3
    have e : (pf :: pr).map (fun p => p.2) = f :: rest := by rw [List.map_cons, ef, er]
    rw [e] at k3
    exact ⟨⟨k1 1, k1 2, k1 4⟩, k2, _, k3⟩)
  have hPh := Lib.hid hP
  clear hP h h0 hall hqs hM hm hN hu hW0 hB0 hWA hBA hBA' hPA hqA hq0 hP0 hcs hsp ef eb er hsl hN1 hN1s hps hpb hGlt hwl hNge
  unfold mvR at hcut ⊢
  go_enter Tryz.func103, Tryz.ntmps103
  go_upto_region 1 with fail
  rw [← hW0h.out, ← hPh.out]
  go_upto_region 3 with fail
  rw [← hWAh.out]
  go_upto_region 4 with (go_at_call 114; refine hDel.out.mono ?_; rintro e w1 ⟨rfl, hb1, hc1⟩; obtain ⟨⟨q1, q9, q2⟩, WB, hWB, ⟨p0, p1, p2, p3⟩, p4, hLl, hso, hPl, hownd, hfin⟩ := hcut.out w1 hb1 hc1; have hWBh := Lib.hid hWB; have hfinh := Lib.hid hfin; clear hb1 hc1 hWB hfin)
  rw [← hWBh.out]
  clear z2 z3 xb y2 f2 a2 x2 q1 q2
  go_region_law (refine step_append_own rfl (.tmp 30) (.tmp 32) 22 rfl w.heap.size 40 j0 (.agg #[.bool false, .slice none 0 0, .slice none 0 0, .slice none 0 0]) 4 80 Tryz.underlying22 hj hy0 hy1 hy2 rfl (by decide) vp M _ (by simp [Act.eval]) (hownd.alloc _) ⟨WB.heap.size, 0, none⟩ 1 1 (pcC true ((none, 0, 0), (Ab, nb, cb), (some ⟨G, 0, none⟩, N1, cap))) (by simp [Act.eval]) rfl (cell_new4 _ _ _ _ _ _) (pcC_one _ _) hmax.out.1 hmax.out.2 (by simp; omega) ?_; intro v' w2 hown2 hg2 hloc2; obtain ⟨⟨f1, f2, f4⟩, ⟨⟨g1, a1⟩, ⟨g2, a2⟩, ⟨g4, a4⟩⟩, r, hR⟩ := hfinh.out v' w2 hown2 hg2 hloc2; have hRh := Lib.hid hR; obtain ⟨g9, c9, rfl⟩ := ownsRow_succ hown2; clear hown2 hg2 hloc2 hR)
  all_goals
    go_wp2
    go_end0
    exact ⟨rfl, _, r, hRh.out⟩
end
end Go.Proofs.YtcpopnhnihbofaaGreatDoor
