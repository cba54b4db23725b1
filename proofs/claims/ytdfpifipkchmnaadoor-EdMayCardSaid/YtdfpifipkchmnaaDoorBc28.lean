/- Proved here: texts joined: EdRep. -/
import Derived.Test.YtdfpifipkchmnaaDoorBc26
import Derived.Test.YtdfpifipkchmnaaDoorBc27
import Derived.Lib.SliceRun
import Derived.Shelf.RegionOpenPlain
/- Proved here: what slices.Replace makes of a row of texts of the call's own. -/
namespace Go.Proofs.YtdfpifipkchmnaaDoor
open Go.RowKit Go.Lib
set_option linter.unusedVariables false
set_option linter.unusedSimpArgs false
set_option maxRecDepth 100000

theorem blk_h {g o n c k : Nat} (hk : k ≤ c) (W : World) : (Instr.slice 22 (.slice (some ⟨g, o, none⟩) n c) none (some (.int .i64 (k : Int))) none).run Tryd.prog W = .ok (.slice (some ⟨g, o, none⟩) k c) W := by
  rw [run_slice_h (P := Tryd.prog) W 22 (some ⟨g, o, none⟩) n c Tryd.underlying22 .i64 (k : Int) (by omega) (by omega)]
  have h : (if c = 0 then (some ⟨g, o, none⟩ : Option Addr) else (some (⟨g, o, none⟩ : Addr)).map (·.add 0)) = some ⟨g, o, none⟩ := by
    split
    · rfl
    · rfl
  go_simp
theorem blk_l {g o n c k : Nat} (hk : k ≤ n) (hc : k ≠ c) (W : World) : (Instr.slice 22 (.slice (some ⟨g, o, none⟩) n c) (some (.int .i64 (k : Int))) none none).run Tryd.prog W = .ok (.slice (some ⟨g, o + k, none⟩) (n - k) (c - k)) W := by
  rw [run_slice_l (P := Tryd.prog) W 22 (some ⟨g, o, none⟩) n c Tryd.underlying22 .i64 (k : Int) (by omega) (by omega)]
  have h : (if c = k then (some ⟨g, o, none⟩ : Option Addr) else (some (⟨g, o, none⟩ : Addr)).map (·.add k)) = some ⟨g, o + k, none⟩ := by
    rw [if_neg (fun e => hc e.symm)]
    simp only [Option.map_some]
    rw [Addr.add_lit]
  go_simp
  intro e
  exact absurd e.symm hc
theorem blk_e {g o n : Nat} (W : World) : (Instr.slice 22 (.slice (some ⟨g, o, none⟩) n n) (some (.int .i64 (n : Int))) none none).run Tryd.prog W = .ok (.slice (some ⟨g, o, none⟩) 0 0) W := by
  rw [run_slice_l (P := Tryd.prog) W 22 (some ⟨g, o, none⟩) n n Tryd.underlying22 .i64 (n : Int) (by omega) (by omega)]
  go_simp
theorem infoStr1 : (Tryd.prog.info? 9).map (·.size) = some 1 := by kernel_rfl
theorem zeroStr1 (W : World) : (zeroValue 9).run Tryd.prog W = .ok (.string ⟨#[]⟩) W := by
  have h := infoStr
  obtain ⟨i0, hi, hzz⟩ := Option.map_eq_some_iff.1 h
  simp only [Prod.mk.injEq] at hzz
  simp [zeroValue, typeInfo, hi, hzz.1]
  rfl
/-- copy into a block's cells. -/
theorem copy_some {w : World} {g o len dc a sl sc : Nat} {L cs : List Value} {g2 : Nat} (hb : w.heap[g]? = some (.cells L.toArray 9 (0, 0))) (hn : cs.length = Nat.min sl len) (hsrc : ∀ j v, cs[j]? = some v → w.cell? ⟨g2, a + j, none⟩ = some v) (hc : o + cs.length ≤ L.length) (h1 : ∀ v ∈ cs, v.oneCell' = true) (ty : TypeId) :
    (Builtin.copy_ #[22, 22] ty #[.slice (some ⟨g, o, none⟩) len dc, .slice (some ⟨g2, a, none⟩) sl sc]).run Tryd.prog w = .ok (goInt cs.length) (w.setCells g o cs) :=
  run_copy_cells w _ _ ty 9 g o len dc ⟨g2, a, none⟩ sl sc cs Tryd.underlying22 infoStr1 hn (fun j v hj => by rw [Addr.add_lit]; exact hsrc j v hj) (fun j hj => by
    rw [cells_of hb, show L.toArray[o + j]? = L[o + j]? by simp, List.getElem?_eq_getElem (by omega)]
    rfl) (fun j hj => unfrozen_of hb _) h1
theorem RowB.drew {w : World} {g n c : Nat} {L : List Value} {xs : Txs} (h : RowB w g n c L xs) : RowB w.drew g n c L xs := ⟨h.blk, h.len, h.le, h.max, h.pre, h.num⟩
theorem RowB.drops {w : World} {g n c j : Nat} {L : List Value} {xs : Txs} (h : RowB w g n c L xs) : ∀ k v, ((txC xs).drop j)[k]? = some v → w.cell? ⟨g, j + k, none⟩ = some v := fun k v hk => by
  rw [List.getElem?_drop] at hk
  have := h.cells _ v hk
  rwa [Nat.zero_add] at this
theorem min_eq {a b : Nat} (h : a ≤ b) : Nat.min a b = a := Nat.min_eq_left h
theorem copy_none {w : World} {g o len dc : Nat} (ty : TypeId) : (Builtin.copy_ #[22, 22] ty #[.slice (some ⟨g, o, none⟩) len dc, .slice none 0 0]).run Tryd.prog w = .ok (goInt 0) w := by
  obtain ⟨i, hi, hz⟩ := Option.map_eq_some_iff.1 infoStr1
  simp [Builtin.copy_, run_underlying Tryd.underlying22, sizeOf, typeInfo, hi, Builtin.lenOf, Builtin.firstCells, storeCells]

section
variable {w : World} {base i j m : Nat} {xs ys : Txs} {g n c g2 c2 : Nat} {L L2 : List Value}
set_option maxHeartbeats 4000000 in
theorem replace_wide (hr : RowB w g n c L xs) (hbg : base ≤ g) (h2 : RowB w g2 m c2 L2 ys) (hne : g2 ≠ g) (hij : i < j) (hj : j < n) (hroom : i + m + (n - j) ≤ c) (hw : j < i + m) (hsz : n + m ≤ 1000000) :
    Calls Tryd.prog 50 #[.slice (some ⟨g, 0, none⟩) n c, .int .i64 (i : Int), .int .i64 (j : Int), .slice (some ⟨g2, 0, none⟩) m c2] w fun e w' => RowOut base (.slice (some ⟨g, 0, none⟩) n c) w w' e (layE xs i j ys) := by
  have hml := h2.num
  have hcm := hr.max
  have hLl := hr.len
  have hnl := hr.num
  have hle := hr.le
  have h2c := h2.le
  obtain ⟨D, hD⟩ : ∃ D, D = n - j := ⟨_, rfl⟩
  obtain ⟨IM, hIM⟩ : ∃ IM, IM = i + m := ⟨_, rfl⟩
  obtain ⟨T, hT⟩ : ∃ T, T = IM + D := ⟨_, rfl⟩
  have hTx : TxR w w.heap.size (some ⟨g, 0, none⟩, n, c) xs := by
    obtain ⟨A, c', e, h1, h3, h4⟩ := own_slice (hr.own hbg)
    injection e with e1 e2 e3
    subst e1 e3
    refine ⟨hle, hcm, ?_⟩
    rw [hnl] at h4
    exact h4
  obtain ⟨A0, m0, q0, hs0, -, -, -⟩ := slice_mid (i := i) (k := j) hTx (by omega) (by omega)
  have hs1 := blk_h (g := g) (o := 0) (n := n) (c := c) (k := i) (by omega)
  have hs2 := blk_l (g := g) (o := 0) (n := n) (c := c) (k := j) (by omega) (by omega)
  rw [← hD, Nat.zero_add] at hs2
  have hs3 := blk_h (g := g) (o := 0) (n := n) (c := c) (k := T) (by omega)
  have hs4 := blk_l (g := g) (o := 0) (n := T) (c := c) (k := IM) (by omega) (by omega)
  have hs5 := blk_l (g := g) (o := 0) (n := T) (c := c) (k := i) (by omega) (by omega)
  rw [Nat.zero_add, show T - IM = D by omega] at hs4
  rw [Nat.zero_add] at hs5
  have e1 : (i : Int) + (m : Int) = (IM : Int) := by omega
  have e2 : (IM : Int) + (D : Int) = (T : Int) := by omega
  have w1 : IntKind.i64.wrap (IM : Int) = (IM : Int) := by rw [IntKind.wrap_i64]; omega
  have w2 : IntKind.i64.wrap (T : Int) = (T : Int) := by rw [IntKind.wrap_i64]; omega
  have t1 : ((i : Int) == (j : Int)) = false := by rw [beq_eq_false_iff_ne]; omega
  have t2 : ((j : Int) == (n : Int)) = false := by rw [beq_eq_false_iff_ne]; omega
  have t3 : decide ((c : Int) < (T : Int)) = false := decide_eq_false (by omega)
  have t3p : ¬ (c : Int) < (T : Int) := by omega
  have t4 : decide ((IM : Int) ≤ (j : Int)) = false := decide_eq_false (by omega)
  have t4p : ¬ (IM : Int) ≤ (j : Int) := by omega
  have hov : ∀ lb cb, (callFunc 68 #[.slice (some ⟨g, IM, none⟩) lb cb, .slice (some ⟨g2, 0, none⟩) m c2]).run Tryd.prog w.drew = .ok (.value (.bool false)) w.drew := fun lb cb => by
    rw [run_callFunc_extern Tryd.func68 (by kernel_rfl) (by kernel_rfl) (by kernel_rfl) (e := Extern.SlicesOverlaps.overlaps #[22, 22] #[4]) (by kernel_rfl),
      Lib.run_overlaps_apart w.drew 22 4 9 Tryd.underlying22 1 (fun W => by
        obtain ⟨i0, hi, hz⟩ := Option.map_eq_some_iff.1 infoStr1
        simp [sizeOf, typeInfo, hi, hz]) ⟨g, IM, none⟩ ⟨g2, 0, none⟩ lb cb m c2 (fun e => hne e.symm) _ _ _ _ hr.drew.shape h2.drew.shape (by omega) (hr.drew.free _) (hr.drew.free _)]
    rfl
  have hdl : ((txC xs).drop j).length = D := by rw [List.length_drop, txC_len]; omega
  have hyl : (txC ys).length = m := by rw [txC_len]; exact hml
  have hcp1 : ∀ ty, (Builtin.copy_ #[22, 22] ty #[.slice (some ⟨g, IM, none⟩) D (c - IM), .slice (some ⟨g, j, none⟩) D (c - j)]).run Tryd.prog w.drew.drew = .ok (goInt ((txC xs).drop j).length) (w.drew.drew.setCells g IM ((txC xs).drop j)) := fun ty =>
    copy_some (w := w.drew.drew) hr.blk (by rw [hdl, min_eq (Nat.le_refl _)]) (hr.drew.drew).drops (by omega) (fun v hv => txC_one xs v (List.mem_of_mem_drop hv)) ty
  obtain ⟨W1, hW1⟩ : ∃ W1, W1 = w.drew.drew.setCells g IM ((txC xs).drop j) := ⟨_, rfl⟩
  have hb1 : W1.heap[g]? = some (.cells (setL L IM ((txC xs).drop j)).toArray 9 (0, 0)) := by rw [hW1]; exact setCells_block ((txC xs).drop j) (w := w.drew.drew) hr.blk (by omega)
  have hcp2 : ∀ ty, (Builtin.copy_ #[22, 22] ty #[.slice (some ⟨g, i, none⟩) (T - i) (c - i), .slice (some ⟨g2, 0, none⟩) m c2]).run Tryd.prog W1 = .ok (goInt (txC ys).length) (W1.setCells g i (txC ys)) := fun ty =>
    copy_some (w := W1) hb1 (by rw [hyl, min_eq (by omega)]) (fun k v hk => by rw [hW1, World.cell?_setCells_out _ _ _ _ _ (fun h _ => absurd h hne)]; exact h2.cells k v hk) (by rw [setL_len (by omega)]; omega) (txC_one ys) ty
  have hfin : Hid (∀ v, v = Value.slice (some ⟨g, 0, none⟩) T c → RowOut base (.slice (some ⟨g, 0, none⟩) n c) w (W1.setCells g i (txC ys)) (.returned v) (layE xs i j ys)) := Lib.hid (by
    rintro v rfl
    have hb2 := setCells_block (txC ys) (o := i) hb1 (by rw [setL_len (by omega)]; omega)
    have hR := hr.set hb2 (by rw [setL_len (by rw [setL_len (by omega)]; omega), setL_len (by omega)]) (zs := layE xs i j ys) (k := T) (by omega) (by
      have := set_two (L := L) (a := txC ys) (b := (txC xs).drop j) (i := i) (m := m) hyl (by omega)
      rw [hdl, ← hIM, ← hT] at this
      rw [this, lay_txC, ← hr.pre, List.take_take, Nat.min_eq_left (by omega)]) (by rw [layX_len (by omega) (by omega)]; omega)
    refine ⟨_, rfl, hR.own hbg, ?_⟩
    rw [hW1]
    exact ((But.of_below (F := fun k => k = g) (below_drew (below_drew (Below.refl w.heap.size w))) fun k hk _ => hk).trans ((setCells_but ((txC xs).drop j) (o := IM)).trans (setCells_but (txC ys) (o := i)) fun k e => .inl e) fun k e => .inl e).more fun k e => by rw [e]; rfl)
  rw [← hW1] at hcp1
  have mixed : Tryd.prog.follows .mixedOrders = true := by kernel_rfl
  clear hTx hr h2 hml hcm hLl hnl hle hD hIM hT hdl hyl hb1 hW1 h2c hij hj hroom hw hsz
  go_enter Tryd.func50, Tryd.ntmps50
  go_upto_region 9 with fail
  go_region
  all_goals
    go_upto_region 22 with (simp only [hov])
    go_region_law_o (refine step_copy_runI rfl _ _ 22 22 rfl (.slice (some ⟨g, IM, none⟩) D (c - IM)) (.slice (some ⟨g, j, none⟩) D (c - j)) (by simp [Act.eval, Act.put]) (by simp [Act.eval, Act.put]) (hcp1 _) ?_)
    all_goals
      go_wp2_with (at_builtin; refine wpList_copy_runI _ rfl _ _ 22 22 rfl _ _ rfl rfl (hcp2 _) ?_)
      go_ret
      exact hfin.out _ rfl
end

theorem wp_clear_run (w : World) {o : Oper} {a : Act} {K : Act → World → Prop} {Q : Exit → Act → World → Prop} (s : Operand) (t : TypeId)
    (ho : o.op = .call { callee := .builtin .clear, args := #[s], argTypes := #[t] }) (v : Value) (hs : a.eval s = v) {v' : Value} {w' : World}
    (hr : (Builtin.clear_ #[t] o.type #[v]).run Tryd.prog w = .ok v' w') (h : K (a.put o.dst v') w') : o.wp Tryd.prog a w K Q := by
  unfold Oper.wp execOp
  simp only [ho, resolve, invoke, builtin, Sem.run_bind, Sem.run_pure, Result.andThen_ok, List.map_toArray, List.map_cons, List.map_nil, hs, hr]
  exact h
theorem wpList_clear_run (w : World) {ops : Array Oper} {rest : List Oper} {o : Oper} {a : Act} {Q : Exit → Act → World → Prop} (hgd : o.guard = none) (s : Operand) (t : TypeId)
    (ho : o.op = .call { callee := .builtin .clear, args := #[s], argTypes := #[t] }) (v : Value) (hs : a.eval s = v) {v' : Value} {w' : World}
    (hr : (Builtin.clear_ #[t] o.type #[v]).run Tryd.prog w = .ok v' w') (h : wpList Tryd.prog ops Q rest (a.put o.dst v') w') : wpList Tryd.prog ops Q (o :: rest) a w :=
  wpList_plain hgd fun _ hK => wp_clear_run w s t ho v hs hr (hK _ _ h)
theorem clear_some {w : World} {g o k dc : Nat} {L : List Value} (hb : w.heap[g]? = some (.cells L.toArray 9 (0, 0))) (hk : 0 < k) (hc : o + k ≤ L.length) (ty : TypeId) :
    (Builtin.clear_ #[22] ty #[.slice (some ⟨g, o, none⟩) k dc]).run Tryd.prog w = .ok (.tuple #[]) (w.setCells g o (List.replicate k (.string ⟨#[]⟩))) :=
  run_clear_slice w 22 9 ty (.string ⟨#[]⟩) Tryd.underlying22 zeroStr1 rfl rfl g o k dc hk (fun j hj => by
    rw [cells_of hb, show L.toArray[o + j]? = L[o + j]? by simp, List.getElem?_eq_getElem (by omega)]
    rfl) (fun j hj => unfrozen_of hb _)
theorem clear_nothing {w : World} {A : Option Addr} {dc : Nat} (ty : TypeId) : (Builtin.clear_ #[22] ty #[.slice A 0 dc]).run Tryd.prog w = .ok (.tuple #[]) w := by
  cases A <;> simp [Builtin.clear_, run_underlying Tryd.underlying22]
theorem set_take {L a : List Value} {o : Nat} (h : o ≤ L.length) : (setL L o a).take o = L.take o := by
  unfold setL
  rw [List.append_assoc, List.take_left' (by rw [List.length_take]; omega)]

section
variable {w : World} {base i j m : Nat} {xs ys : Txs} {g n c c2 : Nat} {L : List Value} {A2 : Option Addr}
set_option maxHeartbeats 4000000 in
theorem replace_narrow (hr : RowB w g n c L xs) (hbg : base ≤ g) (hyn : ys.length = m) (hcpv : ∀ ty ln dc, m ≤ ln → (Builtin.copy_ #[22, 22] ty #[.slice (some ⟨g, i, none⟩) ln dc, .slice A2 m c2]).run Tryd.prog w.drew = .ok (goInt m) (w.drew.setCells g i (txC ys))) (hij : i < j) (hj : j < n) (hw : i + m ≤ j) (hsz : n + m ≤ 1000000) :
    Calls Tryd.prog 50 #[.slice (some ⟨g, 0, none⟩) n c, .int .i64 (i : Int), .int .i64 (j : Int), .slice A2 m c2] w fun e w' => RowOut base (.slice (some ⟨g, 0, none⟩) n c) w w' e (layE xs i j ys) := by
  have hcm := hr.max
  have hLl := hr.len
  have hnl := hr.num
  have hle := hr.le
  have hTx : TxR w w.heap.size (some ⟨g, 0, none⟩, n, c) xs := by
    obtain ⟨A, c', e, h1, h3, h4⟩ := own_slice (hr.own hbg)
    injection e with e1 e2 e3
    subst e1 e3
    refine ⟨hle, hcm, ?_⟩
    rw [hnl] at h4
    exact h4
  obtain ⟨A0, m0, q0, hs0, -, -, -⟩ := slice_mid (i := i) (k := j) hTx (by omega) (by omega)
  have hs1 := blk_h (g := g) (o := 0) (n := n) (c := c) (k := i) (by omega)
  have t1 : ((i : Int) == (j : Int)) = false := by rw [beq_eq_false_iff_ne]; omega
  obtain ⟨D, hD⟩ : ∃ D, D = n - j := ⟨_, rfl⟩
  obtain ⟨IM, hIM⟩ : ∃ IM, IM = i + m := ⟨_, rfl⟩
  obtain ⟨T, hT⟩ : ∃ T, T = IM + D := ⟨_, rfl⟩
  have hs2 := blk_l (g := g) (o := 0) (n := n) (c := c) (k := j) (by omega) (by omega)
  rw [← hD, Nat.zero_add] at hs2
  have hs3 := blk_h (g := g) (o := 0) (n := n) (c := c) (k := T) (by omega)
  have hs4 := blk_l (g := g) (o := 0) (n := T) (c := c) (k := IM) (by omega) (by omega)
  have hs5 := blk_l (g := g) (o := 0) (n := T) (c := c) (k := i) (by omega) (by omega)
  rw [Nat.zero_add, show T - IM = D by omega] at hs4
  rw [Nat.zero_add] at hs5
  have e1 : (i : Int) + (m : Int) = (IM : Int) := by omega
  have e2 : (IM : Int) + (D : Int) = (T : Int) := by omega
  have w1 : IntKind.i64.wrap (IM : Int) = (IM : Int) := by rw [IntKind.wrap_i64]; omega
  have w2 : IntKind.i64.wrap (T : Int) = (T : Int) := by rw [IntKind.wrap_i64]; omega
  have t2 : ((j : Int) == (n : Int)) = false := by rw [beq_eq_false_iff_ne]; omega
  have t3 : decide ((c : Int) < (T : Int)) = false := decide_eq_false (by omega)
  have t3p : ¬ (c : Int) < (T : Int) := by omega
  have t4 : decide ((IM : Int) ≤ (j : Int)) = true := decide_eq_true (by omega)
  have t4p : (IM : Int) ≤ (j : Int) := by omega
  have hdl : ((txC xs).drop j).length = D := by rw [List.length_drop, txC_len]; omega
  have hyl : (txC ys).length = m := by rw [txC_len]; exact hyn
  have hcp1 := fun ty dc => hcpv ty (T - i) dc (by omega)
  obtain ⟨W1, hW1⟩ : ∃ W1, W1 = w.drew.setCells g i (txC ys) := ⟨_, rfl⟩
  rw [← hW1] at hcp1
  have hb1 : W1.heap[g]? = some (.cells (setL L i (txC ys)).toArray 9 (0, 0)) := by rw [hW1]; exact setCells_block (txC ys) (w := w.drew) hr.blk (by omega)
  have hsrc2 : ∀ k v, ((txC xs).drop j)[k]? = some v → W1.drew.cell? ⟨g, j + k, none⟩ = some v := fun k v hk => by
    show W1.cell? ⟨g, j + k, none⟩ = some v
    rw [hW1, World.cell?_setCells_out _ _ _ _ _ (fun _ _ => .inr (by show i + (txC ys).length ≤ j + k; omega))]
    exact hr.drops k v hk
  have hcp2 : ∀ ty, (Builtin.copy_ #[22, 22] ty #[.slice (some ⟨g, IM, none⟩) D (c - IM), .slice (some ⟨g, j, none⟩) D (c - j)]).run Tryd.prog W1.drew = .ok (goInt ((txC xs).drop j).length) (W1.drew.setCells g IM ((txC xs).drop j)) := fun ty =>
    copy_some (w := W1.drew) hb1 (by rw [hdl, min_eq (Nat.le_refl _)]) hsrc2 (by rw [setL_len (by omega)]; omega) (fun v hv => txC_one xs v (List.mem_of_mem_drop hv)) ty
  obtain ⟨W2, hW2⟩ : ∃ W2, W2 = W1.drew.setCells g IM ((txC xs).drop j) := ⟨_, rfl⟩
  rw [← hW2] at hcp2
  have hb2 : W2.heap[g]? = some (.cells (setL (setL L i (txC ys)) IM ((txC xs).drop j)).toArray 9 (0, 0)) := by rw [hW2]; exact setCells_block ((txC xs).drop j) (w := W1.drew) hb1 (by rw [setL_len (by omega)]; omega)
  have hl2 : (setL (setL L i (txC ys)) IM ((txC xs).drop j)).length = c := by rw [setL_len (by rw [setL_len (by omega)]; omega), setL_len (by omega), hLl]
  have hbt2 : But (fun k => k = g) w W2 := by
    rw [hW2, hW1]
    exact ((But.of_below (F := fun k => k = g) (below_drew (Below.refl w.heap.size w)) fun k hk _ => hk).trans (setCells_but (txC ys) (o := i)) fun k e => .inl e).trans ((But.of_below (F := fun k => k = g) (below_drew (Below.refl _ _)) fun k hk _ => hk).trans (setCells_but ((txC xs).drop j) (o := IM)) fun k e => .inl e) fun k e => .inl e
  have hpre : (setL (setL L i (txC ys)) IM ((txC xs).drop j)).take T = txC (layE xs i j ys) := by
    have := set_fro (L := L) (a := txC ys) (b := (txC xs).drop j) (i := i) (m := m) hyl (by omega)
    rw [hdl, ← hIM, ← hT] at this
    rw [this, lay_txC, ← hr.pre, List.take_take, Nat.min_eq_left (by omega)]
  have hzl : (layE xs i j ys).length = T := by rw [layX_len (by omega) (by omega)]; omega
  have mixed : Tryd.prog.follows .mixedOrders = true := by kernel_rfl
  have hcl : ∃ B K C WZ, (∀ W, (Instr.slice 22 (.slice (some ⟨g, 0, none⟩) n c) (some (.int .i64 (T : Int))) none none).run Tryd.prog W = .ok (.slice B K C) W) ∧ (∀ ty, (Builtin.clear_ #[22] ty #[.slice B K C]).run Tryd.prog W2 = .ok (.tuple #[]) WZ) ∧ RowOut base (.slice (some ⟨g, 0, none⟩) n c) w WZ (.returned (.slice (some ⟨g, 0, none⟩) T c)) (layE xs i j ys) := by
    by_cases hTn : T < n
    · refine ⟨_, _, _, _, blk_l (g := g) (o := 0) (n := n) (c := c) (k := T) (by omega) (by omega), clear_some hb2 (by omega) (by rw [hl2]; omega), ?_⟩
      have hb3 := setCells_block (List.replicate (n - T) (.string ⟨#[]⟩)) (o := 0 + T) hb2 (by rw [hl2, List.length_replicate]; omega)
      have hR := hr.set hb3 (by rw [setL_len (by rw [hl2, List.length_replicate]; omega), hl2, hLl]) (zs := layE xs i j ys) (k := T) (by omega) (by rw [Nat.zero_add, set_take (by rw [hl2]; omega), hpre]) hzl
      exact ⟨_, rfl, hR.own hbg, (hbt2.trans (setCells_but (List.replicate (n - T) (.string ⟨#[]⟩))) fun k e => .inl e).more fun k e => by rw [e]; rfl⟩
    · have hTe : T = n := by omega
      have hR := hr.set hb2 (by rw [hl2, hLl]) (zs := layE xs i j ys) (k := T) (by omega) hpre hzl
      have hO : RowOut base (.slice (some ⟨g, 0, none⟩) n c) w W2 (.returned (.slice (some ⟨g, 0, none⟩) T c)) (layE xs i j ys) := ⟨_, rfl, hR.own hbg, hbt2.more fun k e => by rw [e]; rfl⟩
      by_cases hcn : n = c
      · subst hcn
        rw [hTe] at hO ⊢
        exact ⟨_, _, _, W2, blk_e, clear_nothing, hO⟩
      · refine ⟨_, _, _, W2, blk_l (g := g) (o := 0) (n := n) (c := c) (k := T) (by omega) (by omega), ?_, hO⟩
        rw [hTe, Nat.sub_self]
        exact clear_nothing
  obtain ⟨B, K, C, WZ, hs6, hcl, hfin⟩ := hcl
  have hfinh := Lib.hid hfin
  clear hTx hr hcm hLl hnl hle hD hIM hT hdl hyl hb1 hW1 hij hj hw hsz hfin hW2 hb2 hl2 hbt2 hpre hzl hsrc2 hcpv hyn
  go_enter Tryd.func50, Tryd.ntmps50
  go_upto_region 9 with fail
  go_region
  all_goals
    go_upto_region 18 with (at_builtin; refine wpList_copy_runI _ rfl _ _ 22 22 rfl _ _ rfl rfl (hcp1 _ _) ?_)
    go_region_law_o (refine step_copy_runI rfl _ _ 22 22 rfl (.slice (some ⟨g, IM, none⟩) D (c - IM)) (.slice (some ⟨g, j, none⟩) D (c - j)) (by simp [Act.eval, Act.put]) (by simp [Act.eval, Act.put]) (hcp2 _) ?_)
    all_goals
      go_wp2_with (at_builtin; refine wpList_clear_run _ rfl _ 22 rfl _ rfl (hcl _) ?_)
      go_ret
      exact hfinh.out
end
end Go.Proofs.YtdfpifipkchmnaaDoor
