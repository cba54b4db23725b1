/- Proved here: texts joined: EdRep2, EdRep3. -/
import Derived.Test.YtdfpifipkchmnaaGreatDoorBa29
/- Proved here: what slices.Replace makes of a row of texts of the call's own, at its end, and where a new row is wanted. -/
namespace Go.Proofs.YtdfpifipkchmnaaGreatDoor
open Go.RowKit Go.Lib
set_option linter.unusedVariables false
set_option linter.unusedSimpArgs false
set_option maxRecDepth 100000

section
variable {w : World} {base i j m : Nat} {xs ys : Txs} {g n c g2 c2 : Nat} {L L2 : List Value} {A2 : Option Addr}
set_option maxHeartbeats 4000000 in
theorem replace_end (hr : RowB w g n c L xs) (hbg : base ≤ g) (hyn : ys.length = m) (hsrc : Src Tryz.prog 1 22 (.slice A2 m c2) m (txC ys) w) (hij : i < n) (hroom : i + m ≤ c) (hsz : n + m ≤ 1000000) :
    Calls Tryz.prog 71 #[.slice (some ⟨g, 0, none⟩) n c, .int .i64 (i : Int), .int .i64 (n : Int), .slice A2 m c2] w fun e w' => RowOut base (.slice (some ⟨g, 0, none⟩) n c) w w' e (layE xs i n ys) := by
  have hcm := hr.max
  have hLl := hr.len
  have hnl := hr.num
  have hle := hr.le
  have hTx : TxR w w.heap.size (some ⟨g, 0, none⟩, n, c) xs := by
    obtain ⟨A, c', e, h1, h3, h4⟩ := own_slice (hr.own hbg)
    injection e with e1 e2 e3
    subst e1 e3
    refine ⟨hle, hcm, ?_⟩
    rw [hnl] at h4
    exact h4
  obtain ⟨A0, m0, q0, hs0, -, -, -⟩ := slice_mid (i := i) (k := n) hTx (by omega) (by omega)
  have hs1 := blk_h (g := g) (o := 0) (n := n) (c := c) (k := i) (by omega)
  have t1 : ((i : Int) == (n : Int)) = false := by rw [beq_eq_false_iff_ne]; omega
  obtain ⟨IM, hIM⟩ : ∃ IM, IM = i + m := ⟨_, rfl⟩
  have hyl : (txC ys).length = m := by rw [txC_len]; exact hyn
  obtain ⟨W1, hW1⟩ : ∃ W1, W1 = w.setCells g (0 + i) (txC ys) := ⟨_, rfl⟩
  have hb1 : W1.heap[g]? = some (.cells (setL L (0 + i) (txC ys)).toArray 9 (0, 0)) := by rw [hW1]; exact setCells_block (txC ys) hr.blk (by omega)
  have hl1 : (setL L (0 + i) (txC ys)).length = c := by rw [setL_len (by omega), hLl]
  have hpre : (setL L (0 + i) (txC ys)).take IM = txC (layE xs i n ys) := by
    have h1 := set_one_take (L := L) (a := txC ys) (i := i) (m := m) hyl (by omega)
    rw [Nat.zero_add, hIM, h1, lay_txC, ← hr.pre, List.take_take, Nat.min_eq_left (by omega), List.drop_of_length_le (by rw [List.length_take]; omega), List.append_nil]
  have hzl : (layE xs i n ys).length = IM := by rw [layX_len (by omega) (by omega)]; omega
  have hbt1 : But (fun k => k = g) w W1 := by rw [hW1]; exact setCells_but (txC ys) (o := 0 + i)
  have hai : (Tryz.prog.info? 9).map (fun i => (i.zero, i.size, i.bytes)) = some (some (.string ByteArray.empty), 1, 16) := infoStr
  have hsrch := Lib.hid hsrc
  have hW1h := Lib.hid hW1
  have hcell := Lib.hid (And.intro (fun k (hk : k < (txC ys).length) => (show (w.cell? ⟨g, 0 + i + k, none⟩).isSome = true from hr.some_ (by omega))) (fun k (hk : k < (txC ys).length) => (show w.frozen? ⟨g, 0 + i + k, none⟩ = false from hr.free _)))
  have hIMi : Hid (i + m = IM) := Lib.hid hIM.symm
  by_cases hlt : IM < n
  · have hs2 := blk_l (g := g) (o := 0) (n := n) (c := c) (k := IM) (by omega) (by omega)
    rw [Nat.zero_add] at hs2
    have hcl := fun ty => clear_some (w := W1) (g := g) (o := IM) (k := n - IM) (dc := c - IM) hb1 (by omega) (by rw [hl1]; omega) ty
    have hfin : Hid (RowOut base (.slice (some ⟨g, 0, none⟩) n c) w (W1.setCells g IM (List.replicate (n - IM) (.string ⟨#[]⟩))) (.returned (.slice (some ⟨g, 0, none⟩) IM c)) (layE xs i n ys)) := Lib.hid (by
      have hb3 := setCells_block (List.replicate (n - IM) (.string ⟨#[]⟩)) (o := IM) hb1 (by rw [hl1, List.length_replicate]; omega)
      have hR := hr.set hb3 (by rw [setL_len (by rw [hl1, List.length_replicate]; omega), hl1, hLl]) (zs := layE xs i n ys) (k := IM) (by omega) (by rw [set_take (by rw [hl1]; omega), hpre]) hzl
      exact ⟨_, rfl, hR.own hbg, (hbt1.trans (setCells_but (List.replicate (n - IM) (.string ⟨#[]⟩))) fun k e => .inl e).more fun k e => by rw [e]; rfl⟩)
    have t3 : decide ((IM : Int) < (n : Int)) = true := decide_eq_true (by omega)
    have t3p : (IM : Int) < (n : Int) := by omega
    clear hTx hr hcm hLl hnl hle hIM hyl hb1 hij hsz hl1 hbt1 hpre hzl hyn hsrc hW1
    go_enter Tryz.func71, Tryz.ntmps71
    go_upto_region 6 with (at_builtin; refine wpList_append_room1 _ rfl _ _ 22 22 rfl 9 _ _ Tryz.underlying22 hai g 0 i c rfl _ rfl m (txC ys) hsrch.out hroom hcell.out.1 hcell.out.2 ?_; rw [← hW1h.out, hIMi.out])
    go_wp2_with (at_builtin; refine wpList_clear_run _ rfl _ 22 rfl _ rfl (hcl _) ?_)
    go_ret
    exact hfin.out
  · have hfin : Hid (RowOut base (.slice (some ⟨g, 0, none⟩) n c) w W1 (.returned (.slice (some ⟨g, 0, none⟩) IM c)) (layE xs i n ys)) := Lib.hid (by
      have hR := hr.set hb1 (by rw [hl1, hLl]) (zs := layE xs i n ys) (k := IM) (by omega) hpre hzl
      exact ⟨_, rfl, hR.own hbg, hbt1.more fun k e => by rw [e]; rfl⟩)
    have t3 : decide ((IM : Int) < (n : Int)) = false := decide_eq_false (by omega)
    have t3p : ¬ (IM : Int) < (n : Int) := by omega
    clear hTx hr hcm hLl hnl hle hIM hyl hb1 hij hsz hl1 hbt1 hpre hzl hyn hsrc hW1
    go_enter Tryz.func71, Tryz.ntmps71
    go_upto_region 6 with (at_builtin; refine wpList_append_room1 _ rfl _ _ 22 22 rfl 9 _ _ Tryz.underlying22 hai g 0 i c rfl _ rfl m (txC ys) hsrch.out hroom hcell.out.1 hcell.out.2 ?_; rw [← hW1h.out, hIMi.out])
    go_wp2
    go_ret
    exact hfin.out
set_option maxHeartbeats 4000000 in
theorem replace_end_grow (hr : RowB w g n c L xs) (hbg : base ≤ g) (h2 : RowB w g2 m c2 L2 ys) (hij : i < n) (hroom : c < i + m) (hsz : n + m ≤ 1000000) (hb : base ≤ w.heap.size) :
    Calls Tryz.prog 71 #[.slice (some ⟨g, 0, none⟩) n c, .int .i64 (i : Int), .int .i64 (n : Int), .slice (some ⟨g2, 0, none⟩) m c2] w fun e w' => RowOut base (.slice (some ⟨g, 0, none⟩) n c) w w' e (layE xs i n ys) := by
  have hcm := hr.max
  have hLl := hr.len
  have hnl := hr.num
  have hle := hr.le
  have hTx : TxR w w.heap.size (some ⟨g, 0, none⟩, n, c) xs := by
    obtain ⟨A, c', e, h1, h3, h4⟩ := own_slice (hr.own hbg)
    injection e with e1 e2 e3
    subst e1 e3
    refine ⟨hle, hcm, ?_⟩
    rw [hnl] at h4
    exact h4
  obtain ⟨A0, m0, q0, hs0, -, -, -⟩ := slice_mid (i := i) (k := n) hTx (by omega) (by omega)
  have hs1 := blk_h (g := g) (o := 0) (n := n) (c := c) (k := i) (by omega)
  have t1 : ((i : Int) == (n : Int)) = false := by rw [beq_eq_false_iff_ne]; omega
  obtain ⟨i0, hi, hzz⟩ := Option.map_eq_some_iff.1 infoStr
  simp only [Prod.mk.injEq] at hzz
  obtain ⟨hz0, hz1, hz2⟩ := hzz
  have hR0 : RowB w g i c L (xs.take i) := ⟨hr.blk, hr.len, by omega, hcm, by rw [txC_take, ← hr.pre, List.take_take, Nat.min_eq_left (by omega)], by rw [List.length_take]; omega⟩
  have hown := hR0.own hbg
  rw [hR0.num] at hown
  have hownh := Lib.hid hown
  have hrd2 : Hid (Reads w w.heap.size (some ⟨g2, 0, none⟩) m (txC ys)) := Lib.hid (by
    obtain ⟨A, c', e, h1, h3, h4⟩ := own_slice (h2.own (Nat.le_refl g2))
    injection e with e1 e2 e3
    subst e1
    rw [h2.num] at h4
    exact h4)
  obtain ⟨IM, hIM⟩ : ∃ IM, IM = i + m := ⟨_, rfl⟩
  have hmax : Hid (i + m ≤ maxLen ∧ (i + m) * 16 ≤ 140737488355328) := Lib.hid ⟨by unfold maxLen; omega, by omega⟩
  have hzl : (layE xs i n ys).length = IM := by rw [layX_len (by omega) (by omega), h2.num]; omega
  have hz : txC (layE xs i n ys) = txC (xs.take i) ++ txC ys := by rw [lay_txC, txC_take, List.drop_of_length_le (by rw [txC_len]; omega), List.append_nil]
  have hzh := Lib.hid (And.intro hzl hz)
  have t3 : decide ((IM : Int) < (n : Int)) = false := decide_eq_false (by omega)
  have t3p : ¬ (IM : Int) < (n : Int) := by omega
  have hIMi : Hid (i + m = IM) := Lib.hid hIM.symm
  have hbase := Lib.hid hb
  clear hTx hr hcm hLl hnl hle hIM hij hroom hsz h2 hzl hz hown hR0 hb
  go_enter Tryz.func71, Tryz.ntmps71
  go_upto_region 6 with (at_builtin; (refine wpList_append_readsL _ rfl _ _ 22 rfl base 9 i0 (.string ByteArray.empty) 16 Tryz.underlying22 hi hz0 hz1 hz2 rfl _ i _ rfl hownh.out w.heap.size (some ⟨g2, 0, none⟩) m c2 (txC ys) rfl hrd2.out (txC_one ys) hmax.out.1 hmax.out.2 hbase.out ?_; intro v1 w1 hown1 hg1 hloc1; obtain ⟨A1, q1, rfl, -, -, -⟩ := own_slice hown1; rw [hIMi.out] at hown1 ⊢; have hown1h := Lib.hid hown1; have hg1h := Lib.hid hg1; clear hown1 hg1 hloc1))
  go_wp2
  go_ret
  refine ⟨_, rfl, ?_, But.of_grown hg1h.out fun k e => e⟩
  rw [hzh.out.1, hzh.out.2]
  exact hown1h.out
set_option maxHeartbeats 4000000 in
theorem replace_grow (hr : RowB w g n c L xs) (h2 : RowB w g2 m c2 L2 ys) (hbg : base ≤ g) (hij : i < j) (hj : j < n) (hroom : c < i + m + (n - j)) (hsz : n + m ≤ 1000000) (hb : base ≤ w.heap.size) :
    Calls Tryz.prog 71 #[.slice (some ⟨g, 0, none⟩) n c, .int .i64 (i : Int), .int .i64 (j : Int), .slice (some ⟨g2, 0, none⟩) m c2] w fun e w' => RowOut base (.slice (some ⟨g, 0, none⟩) n c) w w' e (layE xs i j ys) := by
  have hcm := hr.max
  have hLl := hr.len
  have hnl := hr.num
  have hle := hr.le
  have hTx : TxR w w.heap.size (some ⟨g, 0, none⟩, n, c) xs := by
    obtain ⟨A, c', e, h1, h3, h4⟩ := own_slice (hr.own hbg)
    injection e with e1 e2 e3
    subst e1 e3
    refine ⟨hle, hcm, ?_⟩
    rw [hnl] at h4
    exact h4
  obtain ⟨A0, m0, q0, hs0, -, -, -⟩ := slice_mid (i := i) (k := j) hTx (by omega) (by omega)
  have hs1 := blk_h (g := g) (o := 0) (n := n) (c := c) (k := i) (by omega)
  have t1 : ((i : Int) == (j : Int)) = false := by rw [beq_eq_false_iff_ne]; omega
  have hml := h2.num
  have h2c := h2.le
  obtain ⟨D, hD⟩ : ∃ D, D = n - j := ⟨_, rfl⟩
  obtain ⟨IM, hIM⟩ : ∃ IM, IM = i + m := ⟨_, rfl⟩
  obtain ⟨T, hT⟩ : ∃ T, T = IM + D := ⟨_, rfl⟩
  obtain ⟨K, hK⟩ : ∃ K, K = T - i := ⟨_, rfl⟩
  have hs2 := blk_l (g := g) (o := 0) (n := n) (c := c) (k := j) (by omega) (by omega)
  rw [← hD, Nat.zero_add] at hs2
  have e1 : (i : Int) + (m : Int) = (IM : Int) := by omega
  have e2 : (IM : Int) + (D : Int) = (T : Int) := by omega
  have e3 : (T : Int) - (i : Int) = (K : Int) := by omega
  have w1 : IntKind.i64.wrap (IM : Int) = (IM : Int) := by rw [IntKind.wrap_i64]; omega
  have w2 : IntKind.i64.wrap (T : Int) = (T : Int) := by rw [IntKind.wrap_i64]; omega
  have w3 : IntKind.i64.wrap (K : Int) = (K : Int) := by rw [IntKind.wrap_i64]; omega
  have t2 : ((j : Int) == (n : Int)) = false := by rw [beq_eq_false_iff_ne]; omega
  have t3 : decide ((c : Int) < (T : Int)) = true := decide_eq_true (by omega)
  have t3p : (c : Int) < (T : Int) := by omega
  have hdl : ((txC xs).drop j).length = D := by rw [List.length_drop, txC_len]; omega
  have hyl : (txC ys).length = m := by rw [txC_len]; exact hml
  have htl : ((txC xs).take i).length = i := by rw [List.length_take, txC_len]; omega
  obtain ⟨i0, hi, hzz⟩ := Option.map_eq_some_iff.1 infoStr
  simp only [Prod.mk.injEq] at hzz
  obtain ⟨hz0, hz1, hz2⟩ := hzz
  have hold : (Builtin.firstCells i0.size i (.slice (some ⟨g, 0, none⟩) i c)).run Tryz.prog w.drew.drew = .ok ((txC xs).take i).toArray w.drew.drew := by
    rw [hz1]
    exact run_firstCells_some w.drew.drew 1 i ⟨g, 0, none⟩ i c ((txC xs).take i) (by rw [htl, Nat.mul_one]) (fun k v hk => by
      rw [Addr.add_lit]
      rw [List.getElem?_take] at hk
      split at hk
      · exact hr.cells k v hk
      · cases hk)
  have hrz : ∀ ty, (Builtin.append_ #[22, 3] ty #[.slice (some ⟨g, 0, none⟩) i c, .int .i64 (K : Int)]).run Tryz.prog w.drew =
      .ok (.slice (some ⟨w.drew.heap.size, 0, none⟩) (i + K) (grownCap w.drew (i + K) c 9)) (w.drew.drew.alloc (.cells (((txC xs).take i).toArray ++ Builtin.zeroCells (Value.string ByteArray.empty).cells K ++ Builtin.zeroCells (Value.string ByteArray.empty).cells (grownCap w.drew (i + K) c 9 - (i + K))) 9)) := fun ty =>
    Lib.run_append_grow_zeros w.drew 22 3 ty 9 i0 (.string ByteArray.empty) .i64 .i64 Tryz.underlying22 Tryz.underlying3 hi hz0 (some ⟨g, 0, none⟩) i c ((txC xs).take i) hold K (by omega) (by omega) (by omega) (by omega) (by rw [hz2]; omega) (by rw [hz2]; exact growslice_fits (by omega) (by omega))
  have hG : i + K ≤ grownCap w.drew (i + K) c 9 := grownCap_ge _ _ _ _
  have hG2 := grownCap_le_maxLen w.drew (i + K) c 9 (by unfold maxLen; omega)
  obtain ⟨G, hGG⟩ : ∃ G, grownCap w.drew (i + K) c 9 = G := ⟨_, rfl⟩
  rw [hGG] at hG hG2 hrz
  rw [show i + K = T by omega] at hrz hG
  obtain ⟨L0, hL0⟩ : ∃ L0, L0 = (txC xs).take i ++ (List.replicate K (Value.string ⟨#[]⟩) ++ List.replicate (G - T) (Value.string ⟨#[]⟩)) := ⟨_, rfl⟩
  have hL0l : L0.length = G := by rw [hL0]; simp only [List.length_append, List.length_replicate, htl]; omega
  obtain ⟨W0, hW0⟩ : ∃ W0, W0 = w.drew.drew.alloc (.cells (((txC xs).take i).toArray ++ Builtin.zeroCells (Value.string ByteArray.empty).cells K ++ Builtin.zeroCells (Value.string ByteArray.empty).cells (G - T)) 9) := ⟨_, rfl⟩
  rw [← hW0] at hrz
  have hb0 : W0.heap[w.heap.size]? = some (.cells L0.toArray 9 (0, 0)) := by
    have hz : ∀ k, Builtin.zeroCells (Value.string ByteArray.empty).cells k = (List.replicate k (Value.string ⟨#[]⟩)).toArray := zero_str
    rw [hW0, push_at, if_pos (show w.heap.size = w.drew.drew.heap.size from rfl), hz, hz, hL0]
    simp
  have hold0 : Below w.heap.size w W0 := by rw [hW0]; exact below_alloc (below_drew (below_drew (Below.refl _ _))) _
  have hgl := hr.lt
  have h2l := h2.lt
  have hg1 := blk_l (g := w.heap.size) (o := 0) (n := T) (c := G) (k := i) (by omega) (by omega)
  have hg2 := blk_l (g := w.heap.size) (o := 0) (n := T) (c := G) (k := IM) (by omega) (by omega)
  rw [Nat.zero_add] at hg1
  rw [Nat.zero_add, show T - IM = D by omega] at hg2
  have hcp1 : ∀ ty, (Builtin.copy_ #[22, 22] ty #[.slice (some ⟨w.heap.size, i, none⟩) (T - i) (G - i), .slice (some ⟨g2, 0, none⟩) m c2]).run Tryz.prog W0 = .ok (goInt (txC ys).length) (W0.setCells w.heap.size i (txC ys)) := fun ty =>
    copy_some (w := W0) hb0 (by rw [hyl, min_eq (by omega)]) (fun k v hk => (hold0.cell (p := ⟨g2, 0 + k, none⟩) h2l).trans (h2.cells k v hk)) (by omega) (txC_one ys) ty
  obtain ⟨W1, hW1⟩ : ∃ W1, W1 = W0.setCells w.heap.size i (txC ys) := ⟨_, rfl⟩
  rw [← hW1] at hcp1
  have hb1 : W1.heap[w.heap.size]? = some (.cells (setL L0 i (txC ys)).toArray 9 (0, 0)) := by rw [hW1]; exact setCells_block (txC ys) hb0 (by omega)
  have hcp2 : ∀ ty, (Builtin.copy_ #[22, 22] ty #[.slice (some ⟨w.heap.size, IM, none⟩) D (G - IM), .slice (some ⟨g, j, none⟩) D (c - j)]).run Tryz.prog W1.drew = .ok (goInt ((txC xs).drop j).length) (W1.drew.setCells w.heap.size IM ((txC xs).drop j)) := fun ty =>
    copy_some (w := W1.drew) hb1 (by rw [hdl, min_eq (Nat.le_refl _)]) (fun k v hk => by
      show W1.cell? ⟨g, j + k, none⟩ = some v
      rw [hW1, World.cell?_setCells_out _ _ _ _ _ (fun h _ => absurd h (by show g ≠ w.heap.size; omega))]
      exact (hold0.cell (p := ⟨g, j + k, none⟩) hgl).trans (hr.drops k v hk)) (by rw [setL_len (by omega)]; omega) (fun v hv => txC_one xs v (List.mem_of_mem_drop hv)) ty
  have hfin : Hid (RowOut base (.slice (some ⟨g, 0, none⟩) n c) w (W1.drew.setCells w.heap.size IM ((txC xs).drop j)) (.returned (.slice (some ⟨w.heap.size, 0, none⟩) T G)) (layE xs i j ys)) := Lib.hid (by
    have hb2 := setCells_block ((txC xs).drop j) (w := W1.drew) (o := IM) hb1 (by rw [setL_len (by omega)]; omega)
    have hR : RowB _ w.heap.size T G _ (layE xs i j ys) := ⟨hb2, by rw [setL_len (by rw [setL_len (by omega)]; omega), setL_len (by omega), hL0l], hG, hG2, by
      have := set_fro (L := L0) (a := txC ys) (b := (txC xs).drop j) (i := i) (m := m) hyl (by omega)
      rw [hdl, ← hIM, ← hT] at this
      rw [this, lay_txC, hL0, List.take_left' htl], by rw [layX_len (by omega) (by omega)]; omega⟩
    refine ⟨_, rfl, hR.own hb, ?_⟩
    rw [hW1]
    exact But.fresh (((But.of_below (F := fun k => k = w.heap.size) hold0 fun k hk _ => hk).trans (setCells_but (txC ys)) fun k e => .inl e).trans ((But.of_below (F := fun k => k = w.heap.size) (below_drew (Below.refl _ _)) fun k hk _ => hk).trans (setCells_but ((txC xs).drop j)) fun k e => .inl e) fun k e => .inl e))
  have hds : w.drew.heap.size = w.heap.size := rfl
  rw [hds] at hrz
  have mixed : Tryz.prog.follows .mixedOrders = true := by kernel_rfl
  clear hTx hr h2 hcm hLl hnl hle hml h2c hD hIM hT hK hdl hyl htl hold hG hG2 hGG hL0 hL0l hW0 hb0 hold0 hgl h2l hW1 hb1 hij hj hroom hsz hb hds
  go_enter Tryz.func71, Tryz.ntmps71
  go_upto_region 9 with fail
  go_region
  all_goals
    go_upto_region 13 with (first
      | (at_builtin; refine Lib.wpList_append_run _ rfl _ _ _ _ rfl _ _ rfl rfl _ _ (hrz _) ?_)
      | (at_builtin; refine wpList_copy_runI _ rfl _ _ 22 22 rfl _ _ rfl rfl (hcp1 _) ?_))
    go_region_law_o (refine step_copy_runI rfl _ _ 22 22 rfl (.slice (some ⟨w.heap.size, IM, none⟩) D (G - IM)) (.slice (some ⟨g, j, none⟩) D (c - j)) (by simp [Act.eval, Act.put]) (by simp [Act.eval, Act.put]) (hcp2 _) ?_)
    all_goals
      go_wp2
      go_ret
      exact hfin.out
end
end Go.Proofs.YtdfpifipkchmnaaGreatDoor
/- Proved here: what slices.Replace makes of a row of texts of the call's own, whatever is put in. -/
namespace Go.Proofs.YtdfpifipkchmnaaGreatDoor
open Go.RowKit Go.Lib
set_option linter.unusedVariables false
set_option maxRecDepth 100000

section
variable {w : World} {base base2 i j : Nat} {v v2 : Value} {xs ys : Txs}
set_option maxHeartbeats 2000000 in
theorem replace_insert (hi : i ≤ xs.length) (hsz : xs.length + ys.length ≤ 1000000) (h1 : w.ownsRow base 9 1 v xs.length (txC xs)) (h2 : w.ownsRow base2 9 1 v2 ys.length (txC ys)) (hne : ∀ k, v2.ownBlock = some k → v.ownBlock ≠ some k) (hb : base ≤ w.heap.size) :
    Calls Tryz.prog 71 #[v, .int .i64 (i : Int), .int .i64 (i : Int), v2] w fun e w' => RowOut base v w w' e (layE xs i i ys) := by
  have hI := Lib.hid (insert_any hi hsz h1 h2 hne hb)
  obtain ⟨A, c, rfl, hc1, hc2, hr⟩ := own_slice h1
  obtain ⟨N, hN⟩ : ∃ N, xs.length = N := ⟨_, rfl⟩
  have hT : TxR w w.heap.size (A, xs.length, c) xs := ⟨hc1, hc2, hr⟩
  rw [hN] at hT hi
  rw [hN] at hI ⊢
  obtain ⟨A0, m0, q0, hs0, -, -, -⟩ := slice_mid (i := i) (k := i) hT (Nat.le_refl _) hi
  obtain ⟨Z, hZ⟩ : ∃ Z, layE xs i i ys = Z := ⟨_, rfl⟩
  rw [hZ] at hI ⊢
  clear h1 h2 hT hr hc1 hc2 hN hZ hne
  go_enter Tryz.func71, Tryz.ntmps71
  go_wp2_with (go_at_call 87; refine hI.out.mono ?_; rintro e w1 ⟨v', rfl, ho, hbt⟩; have hoh := Lib.hid (And.intro ho hbt); clear ho hbt)
  go_ret
  exact ⟨v', rfl, hoh.out.1, hoh.out.2⟩

/-- slices.Replace of a row of texts, by a row of texts. -/
theorem replace_any (hij : i ≤ j) (hj : j ≤ xs.length) (hsz : xs.length + ys.length ≤ 1000000) (h1 : w.ownsRow base 9 1 v xs.length (txC xs)) (h2 : w.ownsRow base2 9 1 v2 ys.length (txC ys)) (hne : ∀ k, v2.ownBlock = some k → v.ownBlock ≠ some k) (hb : base ≤ w.heap.size) :
    Calls Tryz.prog 71 #[v, .int .i64 (i : Int), .int .i64 (j : Int), v2] w fun e w' => RowOut base v w w' e (layE xs i j ys) := by
  by_cases he : i = j
  · subst he
    exact replace_insert hj hsz h1 h2 hne hb
  · rcases rowB_of h1 with ⟨rfl, rfl⟩ | ⟨g, c, L, rfl, hg, hr⟩
    · simp at hj
      omega
    · have hle := hr.le
      rcases rowB_of h2 with ⟨rfl, rfl⟩ | ⟨g2, c2, L2, rfl, hg2, hr2⟩
      · by_cases hjn : j = xs.length
        · rw [hjn] at he ⊢
          exact replace_end hr hg (m := 0) rfl (Src.ofNil w Tryz.underlying22 0) (by omega) (by omega) (by omega)
        · exact replace_narrow hr hg (m := 0) rfl (fun ty ln dc _ => copy_none ty) (by omega) (by omega) (by omega) (by omega)
      · have hg2n : g2 ≠ g := fun e => hne g2 rfl (by rw [e]; rfl)
        by_cases hjn : j = xs.length
        · rw [hjn] at he ⊢
          by_cases hroom : i + ys.length ≤ c
          · exact replace_end hr hg rfl (Src.ofSlice w Tryz.underlying22 ⟨g2, 0, none⟩ ys.length c2 (txC ys) (by rw [txC_len, Nat.mul_one]) (fun k u hk => by rw [Addr.add_lit]; exact hr2.cells k u hk) (txC_one ys)) (by omega) hroom (by omega)
          · exact replace_end_grow hr hg hr2 (by omega) (by omega) (by omega) hb
        · by_cases hroom : i + ys.length + (xs.length - j) ≤ c
          · by_cases hw : i + ys.length ≤ j
            · refine replace_narrow hr hg rfl (fun ty ln dc hln => ?_) (by omega) (by omega) hw (by omega)
              have := copy_some (w := w.drew) (g := g) (o := i) (len := ln) (dc := dc) (a := 0) (sl := ys.length) (sc := c2) (g2 := g2) (cs := txC ys) hr.blk (by rw [txC_len, min_eq hln]) hr2.cells (by rw [txC_len]; have := hr.len; omega) (txC_one ys) ty
              rw [txC_len] at this
              exact this
            · exact replace_wide hr hg hr2 hg2n (by omega) (by omega) hroom (by omega) (by omega)
          · exact replace_grow hr hr2 hg (by omega) (by omega) (by omega) (by omega) hb
end
end Go.Proofs.YtdfpifipkchmnaaGreatDoor
