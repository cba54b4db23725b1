/- Proved here: texts joined: PkConf, ContEq, ContDf, ConPiece. -/
import Derived.Test.YticgjbckfpkpjaaGreatBt01
import Derived.Test.YticgjbckfpkpjaaGreatBt02
import Derived.Test.YticgjbckfpkpjaaGreatBt04
import Derived.Test.YticgjbckfpkpjaaGreatBt06
import Derived.Test.YticgjbckfpkpjaaGreatBt26
import Derived.Test.YticgjbckfpkpjaaGreatBt27
import Derived.RangeFuncBox
import Derived.Maps.AppendAt
/- Proved here: the contract of the landed package pick's conflict: a copy of the call's own. -/
namespace Go.Proofs.YticgjbckfpkpjaaGreat
open Go.RowKit
set_option linter.unusedVariables false

/-- What a call has made stands, whatever becomes of what lay ahead of it. -/
theorem TxO.stay {F : Nat → Prop} {w w1 w2 : World} {A : Option Addr} {n c : Nat} {xs : Txs} (h : TxO w w1 (.slice A n c) xs) (hb : But F w1 w2) (hF : ∀ k, F k → k < w.heap.size) : TxR w2 w2.heap.size (A, n, c) xs := by
  have h1 := ownsRow_kept h.own (w' := w2) fun k e => hb.block k (h.own.lt k e).2 (fun hf => by have := hF k hf; have := (h.own.lt k e).1; omega)
  obtain ⟨A', c', e, r1, r2, r3⟩ := own_slice h1
  injection e with e1 e2 e3
  subst e1
  subst e2
  subst e3
  exact ⟨r1, r2, r3⟩

/-- A conflict of the call's own, told. -/
def ConfOut (w w' : World) (e : Ending) (b : Txs) (s : List Txs) : Prop := ∃ Ab nb cb As ns cs, e = .returned (.agg #[.bool true, .slice none 0 0, .slice Ab nb cb, .slice As ns cs]) ∧
  (∀ w2, But (fun k => k < w.heap.size) w' w2 → PcR w2 w2.heap.size ((none, 0, 0), (Ab, nb, cb), (As, ns, cs)) (cPc b s)) ∧ Below w.heap.size w w'

/-- How far the copies have come. -/
structure ConfIn (w wr : World) (n G k : Nat) (ps : List Txs) (rs : List Slc) : Prop where
  box : wr.heap[w.heap.size]? = some (.cells #[.bool false, .slice none 0 0, .slice none 0 0, .slice none 0 0] 60 (0, 0))
  row : wr.rowIs G 22 n (rowF rs)
  far : G = w.heap.size + 1
  len : rs.length = k
  below : Below w.heap.size w wr
  each : ∀ (i : Nat) (r : Slc) (l : Txs), rs[i]? = some r → ps[i]? = some l → ∀ w2, But (fun k => k ≤ G) wr w2 → TxR w2 w2.heap.size r l
section
variable {w W0 wr w1 : World} {n G k : Nat} {ps : List Txs} {rs : List Slc}
theorem ConfIn.start (hW : W0 = w.alloc (.cells #[.bool false, .slice none 0 0, .slice none 0 0, .slice none 0 0] 60)) : ConfIn w (W0.alloc (.cells (madeCells #[.slice none 0 0] n) 22)) n W0.heap.size 0 ps [] := by
  have hb : Below w.heap.size w W0 := by rw [hW]; exact (Below.refl _ w).alloc (Nat.le_refl _) _
  have hs : W0.heap.size = w.heap.size + 1 := by rw [hW]; simp
  refine ⟨?_, (World.rowIs_made W0 _ _ _).congr fun i _ => rfl, hs, rfl, hb.alloc hb.size _, fun i r l h => by simp at h⟩
  rw [push_at, if_neg (by omega), hW]
  exact Go.Deep.blk_alloc_new w _
theorem ConfIn.put {A : Option Addr} {m c : Nat} {l : Txs} (h : ConfIn w wr n G k ps rs) (hl : ps[k]? = some l) (hT : TxO wr w1 (.slice A m c) l) : w1.rowIs G 22 n (rowF rs) ∧ ConfIn w (w1.setCell ⟨G, k, none⟩ (.slice A m c)) n G (k + 1) ps (rs ++ [(A, m, c)]) := by
  have hb1 : But (fun j => j = G) w1 (w1.setCell ⟨G, k, none⟩ (.slice A m c)) := But.setCell (F := fun j => j = G) w1 (p := ⟨G, k, none⟩) rfl _
  have hrow : w1.rowIs G 22 n (rowF rs) := h.row.of_block (hT.below.block _ h.row.lt)
  have hw := (Array.getElem?_eq_some_iff.1 h.box).1
  have hG := h.row.lt
  have hs := hT.below.size
  have hf := h.far
  have hb2 : But (fun j => j = G) wr (w1.setCell ⟨G, k, none⟩ (.slice A m c)) := (But.of_below (F := fun j => j = G) hT.below fun q hq _ => hq).trans hb1 fun q e => .inl e
  refine ⟨hrow, (hb2.block _ hw (by omega)).trans h.box, rowF_set (r := (A, m, c)) hrow h.len, hf, by simp [h.len], h.below.trans (hb2.below h.below.size (by rintro q rfl; omega)), fun i r l' h1 h2 w2 h3 => ?_⟩
  have hlen := h.len
  rcases Nat.lt_or_ge i rs.length with hi | hi
  · rw [List.getElem?_append_left hi] at h1
    exact h.each i r l' h1 h2 w2 ((hb2.more (F' := fun k => k ≤ G) (by rintro q rfl; exact Nat.le_refl _)).trans h3 fun q e => .inl e)
  · rw [List.getElem?_append_right hi] at h1
    have hik : i = k := by
      have := (List.getElem?_eq_some_iff.1 h1).1
      simp at this
      omega
    subst hik
    simp [hlen] at h1
    rw [hl] at h2
    injection h2 with h2
    subst h1
    subst h2
    exact hT.stay ((hb1.more (F' := fun k => k ≤ G) (by rintro q rfl; exact Nat.le_refl _)).trans h3 fun q e => .inl e) (by intro q hq; omega)
theorem ConfIn.done {Ab : Option Addr} {nb cb : Nat} {base : Txs} (h : ConfIn w wr n G n ps rs) (hps : ps.length = n) (hn : n ≤ maxLen) (hT : TxO wr w1 (.slice Ab nb cb) base) (u0 u1 u2 u3 : Value) :
    ConfOut w ((((w1.setCell ⟨w.heap.size, 0, none⟩ u0).setCell ⟨w.heap.size, 1, none⟩ u1).setCell ⟨w.heap.size, 2, none⟩ u2).setCell ⟨w.heap.size, 3, none⟩ u3) (.returned (.agg #[.bool true, .slice none 0 0, .slice Ab nb cb, .slice (some ⟨G, 0, none⟩) n n])) base ps := by
  have hG := h.row.lt
  have hf := h.far
  have hB := But.piece w1 w.heap.size u0 u1 u2 u3
  refine ⟨Ab, nb, cb, _, n, n, rfl, fun w2 h2 => ?_, (h.below.trans (hT.below.mono h.below.size)).trans (hB.below (Nat.le_trans h.below.size hT.below.size) (by rintro k rfl; exact Nat.le_refl _))⟩
  have hb1 : But (fun k => k ≤ w.heap.size) w1 w2 := (hB.more (F' := fun k => k ≤ w.heap.size) (by rintro q rfl; exact Nat.le_refl _)).trans h2 fun q (e : q < w.heap.size) => .inl (by omega)
  have hb2 : But (fun k => k ≤ w.heap.size) wr w2 := (But.of_below (F := fun k => k ≤ w.heap.size) hT.below fun q hq _ => hq).trans hb1 fun q e => .inl e
  refine PcR.conf (hT.stay hb1 (by intro q hq; omega)) ⟨Nat.le_refl _, hn, rs, ?_, by rw [hps]; exact h.len, fun k r ss a b => h.each k r ss a b w2 (hb2.more fun q (hq : q ≤ w.heap.size) => by omega)⟩
  refine reads_of_row (h.row.of_block (hb2.block G hG (by omega))) _ (by rw [List.length_map]; exact h.len) fun i u hu => ?_
  rw [List.getElem?_map] at hu
  unfold rowF
  rw [List.getD_eq_getElem?_getD]
  cases h : rs[i]? with
  | none => rw [h] at hu; cases hu
  | some r => rw [h] at hu; simpa using hu
end

set_option maxRecDepth 100000 in
set_option maxHeartbeats 2000000 in
theorem conflict_any (A0 : Option Addr) (n0 c0 : Nat) (base : Txs) (A : Option Addr) (n c : Nat) (rows : List Slc) (ps : List Txs) (w : World) (hn : n ≤ 1000) (hsm : ∀ d ∈ base :: ps, d.length ≤ 1000000) (hA0 : TxR w w.heap.size (A0, n0, c0) base) (hA : RowsT w w.heap.size A n rows ps) :
    Calls Tryz.prog 84 #[.slice A0 n0 c0, .slice A n c] w fun e w' => ConfOut w w' e base ps := by
  obtain ⟨W0, hW0⟩ : ∃ W0, W0 = w.alloc (.cells #[.bool false, .slice none 0 0, .slice none 0 0, .slice none 0 0] 60) := ⟨_, rfl⟩
  have hl := hA.len
  have hlh := Lib.hid hl
  have hsmh := Lib.hid hsm
  have hAh := Lib.hid hA
  have hA0h := Lib.hid hA0
  have hst := Lib.hid (ConfIn.start (n := n) (ps := ps) hW0)
  have hmk := make_rows n (by omega)
  have hW0h := Lib.hid hW0
  clear hA hA0 hsm hW0 hl
  go_enter Tryz.func84, Tryz.ntmps84
  go_upto_region 1 with fail
  rw [← hW0h.out]
  go_wp2
  obtain ⟨G, hG⟩ : ∃ G, W0.heap.size = G := ⟨_, rfl⟩
  rw [hG] at hst ⊢
  clear hG
  go_loopw [6, 7, 13] (fun _ _ s13 wr => ∃ (k : Nat) (rs : List Slc), k ≤ n ∧ s13 = .int .i64 k ∧ Hid (ConfIn w wr n G k ps rs)) (fun _ _ s13 _ => n - (intOf s13).toNat)
  case atStart => exact ⟨0, [], Nat.zero_le _, rfl, hst⟩
  case round =>
    obtain ⟨k, rs, hkn, rfl, hP⟩ := hrel
    obtain ⟨wo, rfl⟩ : ∃ wo : World, wo = wr := ⟨_, rfl⟩
    clear hst
    by_cases hlt : k < n
    · obtain ⟨b, o, A2, n2, c2, l, rfl, hb, hll, hrow, hc, hnc, hcm, hSt⟩ := (hAh.out.below hP.out.below).at_ (k := k) hlt
      have i1 : (0 : Int) ≤ (k : Int) := by omega
      have i2 : (k : Int) < (n : Int) := by omega
      have hln : n2 ≤ 1000000000 := by have := hsmh.out l (List.mem_cons_of_mem _ (List.mem_of_getElem? hll)); have := hSt.len; omega
      have hC := Lib.hid (cloneT_any A2 n2 c2 w.heap.size l wo hln hP.out.below.size hSt)
      have hllh := Lib.hid hll
      clear hll hrow hSt hln hnc hcm
      go_wp2_with (go_at_call 101; refine hC.out.mono ?_; rintro e w1 ⟨v, rfl, hT⟩; obtain ⟨A3, c3, rfl, r1, r2, r3⟩ := own_slice hT.own; have hP2 := Lib.hid (hP.out.put hllh.out hT); have z1 := hP2.out.1.cell hlt; have z2 := hP2.out.1.frozen k; clear hT r1 r2 r3)
      go_roundw
      case rel => exact ⟨k + 1, _, by omega, by go_num, Lib.hid hP2.out.2⟩
      case measure => simp [intOf]; omega
    · obtain rfl : k = n := by omega
      have hln : n0 ≤ 1000000000 := by have := hsmh.out base (List.mem_cons_self ..); have := hA0h.out.2.2.len; dsimp only at this; omega
      have hC := Lib.hid (cloneT_any A0 n0 c0 w.heap.size base wo hln hP.out.below.size (hA0h.out.below hP.out.below).2.2)
      clear hln
      go_wp2_with (go_at_call 101; refine hC.out.mono ?_; rintro e w1 ⟨v, rfl, hT⟩; obtain ⟨A3, c3, rfl, r1, r2, r3⟩ := own_slice hT.own; have k1 : w1.heap[w.heap.size]? = _ := ((hT.below.block _ (Array.getElem?_eq_some_iff.1 hP.out.box).1).trans hP.out.box); obtain ⟨e0, e1, e2, e3, z0, z1, z2, z3⟩ := piece_at k1; have hTh := Lib.hid hT; clear hT r1 r2 r3 k1)
      refine bodyPost_ret (v := .agg #[.bool true, .slice none 0 0, .slice A3 base.length c3, .slice (some ⟨G, 0, none⟩) k k]) (by simp [results, Tryz.results84, go_sem, World.cell?_setCell_same', e0, e1, e2, e3]) rfl ?_
      exact hP.out.done hlh.out (by unfold maxLen; omega) hTh.out _ _ _ _
end Go.Proofs.YticgjbckfpkpjaaGreat
/- Proved here: contracts of functions of slices that the landed package content calls: Equal, Clip, IndexFunc and ContainsFunc (over a closure that tells whether a list is one list), has. -/
namespace Go.Proofs.YticgjbckfpkpjaaGreat
open Go.RowKit
set_option linter.unusedVariables false

set_option maxRecDepth 100000 in
set_option maxHeartbeats 400000 in
theorem equal_any (A A' : Option Addr) (n n' c c' B B' : Nat) (ss ss' : Txs) (w : World) (hn : n ≤ maxLen) (hn' : n' ≤ maxLen) (hA : Strs w B A n ss) (hA' : Strs w B' A' n' ss') :
    Calls Tryz.prog 139 #[.slice A n c, .slice A' n' c'] w fun e w' => e = .returned (.bool (decide (ss = ss'))) ∧ ∃ k, w' = w.drewN k := by
  unfold maxLen at hn hn'
  have hl := hA.len
  have hl' := hA'.len
  by_cases hnn : n = n'
  · subst hnn
    go_enter Tryz.func139, Tryz.ntmps139
    go_wp2
    go_loopw [5, 13] (fun _ i wr => ∃ k : Nat, k ≤ n ∧ i = .int .i64 k ∧ Hid (ss.take k = ss'.take k) ∧ ∃ q, wr = w.drewN q) (fun _ i _ => n - (intOf i).toNat)
    case atStart => exact ⟨0, Nat.zero_le _, rfl, Lib.hid rfl, 0, rfl⟩
    case round =>
      obtain ⟨k, hk, rfl, hq, q, rfl⟩ := hrel
      by_cases hlt : k < n
      · obtain ⟨b, o, t, rfl, hb, ht, hc0⟩ := hA.at_ (k := k) hlt
        obtain ⟨b', o', t', rfl, hb', ht', hc0'⟩ := hA'.at_ (k := k) hlt
        have hi1 : (0 : Int) ≤ (k : Int) := by omega
        have hi2 : (k : Int) < (n : Int) := by omega
        go_wp2
        go_quiet (fail)
        go_wp2
        · have h : (!(str t).toList == (str t').toList) = true := by assumption
          go_ret
          exact ⟨ret_bool (same_no ht ht' h), q + nq, World.drewN_drewN _ _ _⟩
        · have h : (!(str t).toList == (str t').toList) = false := by assumption
          go_roundw
          case rel => exact ⟨k + 1, by omega, by go_num, Lib.hid (same_yes hq.out ht ht' h), q + nq, rfl⟩
          case measure => simp [intOf]; omega
      · go_wp2
        go_ret
        exact ⟨ret_bool (by rw [eq_comm, decide_eq_true_iff]; have := hq.out; rwa [List.take_of_length_le (by omega), List.take_of_length_le (by omega)] at this), q, rfl⟩
  · have hne : (((n : Int) != (n' : Int))) = true := by simp; omega
    go_enter Tryz.func139, Tryz.ntmps139
    go_wp2
    go_ret
    exact ⟨ret_bool (by rw [eq_comm, decide_eq_false_iff_not]; rintro rfl; omega), 0, rfl⟩

set_option maxRecDepth 100000 in
set_option maxHeartbeats 400000 in
theorem clip_any (A : Option Addr) (n c : Nat) (w : World) (hnc : n ≤ c) (hcm : c ≤ maxLen) :
    Calls Tryz.prog 123 #[.slice A n c] w fun e w' => e = .returned (.slice A n n) ∧ w' = w := by
  have hs : ∀ W : World, (Instr.slice 22 (.slice A n c) none (some (.int .i64 n)) (some (.int .i64 n))).run Tryz.prog W = .ok (.slice A n n) W := fun W => by
    rw [run_slice_hm (P := Tryz.prog) W 22 A n c Tryz.underlying22 .i64 .i64 n n (by omega) (Int.le_refl _) (by omega)]
    go_simp
  have hn1 : (0 : Int) ≤ (n : Int) := by omega
  have hnch := Lib.hid hnc
  clear hnc hcm
  go_enter Tryz.func123, Tryz.ntmps123
  go_wp2
  go_ret
  exact ⟨rfl, rfl⟩

/-- What has's closure tells: whether a list is the one that lies in block L. -/
theorem isThis_any (L : Nat) (A A' : Option Addr) (n c n' c' : Nat) (ss p : Txs) (B : Nat) (w : World) (hn : n ≤ maxLen) (hn' : n' ≤ maxLen) (hA : Strs w B A n ss) (hA' : Strs w B A' n' p) (hL : Boxed w L 22 (.slice A' n' c')) :
    Calls Tryz.prog 138 #[.slice A n c, .pointer (some ⟨L, 0, none⟩)] w fun e w' => e = .returned (.bool (decide (ss = p))) ∧ ∃ k, w' = w.drewN k := by
  have hE := Lib.hid (equal_any A A' n n' c c' B B ss p w hn hn' hA hA')
  obtain ⟨r, hr⟩ : ∃ r, decide (ss = p) = r := ⟨_, rfl⟩
  have d0 := hL.cell
  rw [hr] at hE ⊢
  clear hA hA' hL hr
  go_enter Tryz.func138, Tryz.ntmps138
  go_wp2_with (go_at_call 139; refine hE.out.mono ?_; rintro e w1 ⟨rfl, q, rfl⟩)
  go_ret
  exact ⟨rfl, q, rfl⟩

/-- Where a list stands first; -1, if nowhere. -/
def firstAt (lists : List Txs) (p : Txs) : Int := if p ∈ lists then (lists.findIdx (fun l => decide (l = p)) : Nat) else -1
theorem firstAt_yes {lists : List Txs} {p : Txs} {k : Nat} (h : lists[k]? = some p) (hno : p ∉ lists.take k) : firstAt lists p = k := by
  unfold firstAt
  rw [if_pos (List.mem_of_getElem? h)]
  have hk := (List.getElem?_eq_some_iff.1 h).1
  have : lists.findIdx (fun l => decide (l = p)) = k := by
    rw [List.findIdx_eq hk]
    refine ⟨by have := (List.getElem?_eq_some_iff.1 h).2; simpa using this, fun j hj => ?_⟩
    rw [decide_eq_false_iff_not]
    intro e
    exact hno (by rw [← e]; exact List.mem_of_getElem? (i := j) (by rw [List.getElem?_take, if_pos hj]; exact List.getElem?_eq_getElem (by omega)))
  rw [this]
theorem firstAt_no {lists : List Txs} {p : Txs} (h : p ∉ lists) : firstAt lists p = -1 := by
  unfold firstAt
  rw [if_neg h]

set_option maxRecDepth 100000 in
set_option maxHeartbeats 1000000 in
theorem indexOf_any (L : Nat) (A A' : Option Addr) (n c n' c' : Nat) (rows : List Slc) (lists : List Txs) (p : Txs) (w : World) (hn : n ≤ maxLen) (hn' : n' ≤ maxLen) (hA : RowsT w w.heap.size A n rows lists) (hA' : Strs w w.heap.size A' n' p) (hL : Boxed w L 22 (.slice A' n' c')) :
    Calls Tryz.prog 87 #[.slice A n c, .func (.func 138) #[] #[.pointer (some ⟨L, 0, none⟩)]] w fun e w' => e = .returned (.int .i64 (firstAt lists p)) ∧ ∃ k, w' = w.drewN k := by
  have hl := hA.len
  have hAh := Lib.hid hA
  have hlh := Lib.hid hl
  have hX : Hid (∀ (q : Nat) (A1 : Option Addr) (n1 c1 : Nat) (ss : Txs), n1 ≤ maxLen → Strs w w.heap.size A1 n1 ss → Calls Tryz.prog 138 #[.slice A1 n1 c1, .pointer (some ⟨L, 0, none⟩)] (w.drewN q) fun e w' => e = .returned (.bool (decide (ss = p))) ∧ ∃ k, w' = (w.drewN q).drewN k) :=
    Lib.hid fun q A1 n1 c1 ss h1 h2 => isThis_any L A1 A' n1 c1 n' c' ss p w.heap.size (w.drewN q) h1 hn' (h2.drewN q) (hA'.drewN q) hL
  unfold maxLen at hn
  clear hA hA' hL hl
  go_enter Tryz.func87, Tryz.ntmps87
  go_wp2
  go_loopw [5, 8] (fun _ i wr => ∃ k : Nat, k ≤ n ∧ i = .int .i64 k ∧ Hid (p ∉ lists.take k) ∧ ∃ q, wr = w.drewN q) (fun _ i _ => n - (intOf i).toNat)
  case atStart => exact ⟨0, Nat.zero_le _, rfl, Lib.hid (by simp), 0, rfl⟩
  case round =>
    obtain ⟨k, hk, rfl, hno, q, rfl⟩ := hrel
    by_cases hlt : k < n
    · obtain ⟨b, o, A1, n1, c1, ss, rfl, hb, hss, -, hc, hnc, hcm, hS⟩ := hAh.out.at_ (k := k) hlt
      have hi1 : (0 : Int) ≤ (k : Int) := by omega
      have hi2 : (k : Int) < (n : Int) := by omega
      have hC := Lib.hid (hX.out q A1 n1 c1 ss (by omega) hS)
      have hssh := Lib.hid hss
      have hc' : (w.drewN q).cell? ⟨b, o + k, none⟩ = some (.slice A1 n1 c1) := hc
      clear hS hss
      by_cases hp : ss = p
      · subst hp
        have hr := Lib.hid (firstAt_yes hssh.out hno.out)
        have hC2 := hC
        rw [show decide (ss = ss) = true by simp] at hC2
        clear hC
        go_wp2_with (go_at_call 138; refine hC2.out.mono ?_; rintro e w1 ⟨rfl, q1, rfl⟩)
        go_ret
        exact ⟨ret_int hr.out.symm, q + q1, rfl⟩
      · have hC2 := hC
        rw [show decide (ss = p) = false by simpa using hp] at hC2
        have hno2 : p ∉ lists.take (k + 1) := by
          rw [take_at hssh.out]
          intro h
          rcases List.mem_append.1 h with h | h
          · exact hno.out h
          · exact hp (List.mem_singleton.1 h).symm
        have hno3 := Lib.hid hno2
        clear hC hno2
        go_wp2_with (go_at_call 138; refine hC2.out.mono ?_; rintro e w1 ⟨rfl, q1, rfl⟩)
        go_roundw
        case rel => exact ⟨k + 1, by omega, by go_num, hno3, q + q1, rfl⟩
        case measure => simp [intOf]; omega
    · obtain rfl : k = n := by omega
      have hr : firstAt lists p = -1 := firstAt_no (by have := hno.out; rwa [List.take_of_length_le (by rw [hlh.out]; exact Nat.le_refl _)] at this)
      have hrh := Lib.hid hr
      clear hr
      go_wp2
      go_ret
      exact ⟨ret_int hrh.out.symm, q, rfl⟩

set_option maxRecDepth 100000 in
set_option maxHeartbeats 800000 in
theorem contains_any (L : Nat) (A A' : Option Addr) (n c n' c' : Nat) (rows : List Slc) (lists : List Txs) (p : Txs) (w : World) (hn : n ≤ maxLen) (hn' : n' ≤ maxLen) (hA : RowsT w w.heap.size A n rows lists) (hA' : Strs w w.heap.size A' n' p) (hL : Boxed w L 22 (.slice A' n' c')) :
    Calls Tryz.prog 51 #[.slice A n c, .func (.func 138) #[] #[.pointer (some ⟨L, 0, none⟩)]] w fun e w' => e = .returned (.bool (decide (p ∈ lists))) ∧ ∃ k, w' = w.drewN k := by
  have hI := Lib.hid (indexOf_any L A A' n c n' c' rows lists p w hn hn' hA hA' hL)
  obtain ⟨z, hz⟩ : ∃ z, firstAt lists p = z := ⟨_, rfl⟩
  have hd : decide (p ∈ lists) = decide (0 ≤ z) := by
    rw [← hz]
    unfold firstAt
    split
    · rename_i h; simp [h]
    · rename_i h; simp [h]
  rw [hz] at hI
  rw [hd]
  clear hz hd hA hA' hL
  obtain ⟨r, hr⟩ : ∃ r, decide (0 ≤ z) = r := ⟨_, rfl⟩
  rw [hr]
  go_enter Tryz.func51, Tryz.ntmps51
  go_wp2_with (go_at_call 87; refine hI.out.mono ?_; rintro e w1 ⟨rfl, q, rfl⟩)
  go_ret
  exact ⟨ret_bool (by simp), q, rfl⟩

set_option maxRecDepth 100000 in
set_option maxHeartbeats 800000 in
theorem has_any (A A' : Option Addr) (n c n' c' : Nat) (rows : List Slc) (lists : List Txs) (p : Txs) (w : World) (hn : n ≤ maxLen) (hn' : n' ≤ maxLen) (hA : RowsT w w.heap.size A n rows lists) (hA' : Strs w w.heap.size A' n' p) :
    Calls Tryz.prog 122 #[.slice A n c, .slice A' n' c'] w fun e w' => e = .returned (.bool (decide (p ∈ lists))) ∧ Below w.heap.size w w' := by
  have hb : Below w.heap.size w (w.alloc (.cells #[.slice A' n' c'] 22)) := (Below.refl _ _).alloc (Nat.le_refl _) _
  have hC := Lib.hid (contains_any w.heap.size A A' n c n' c' rows lists p (w.alloc (.cells #[.slice A' n' c'] 22)) hn hn' (hA.up hb) (hA'.up hb) (Boxed.new _ _ _))
  have hbh := Lib.hid hb
  obtain ⟨r, hr⟩ : ∃ r, decide (p ∈ lists) = r := ⟨_, rfl⟩
  rw [hr] at hC ⊢
  clear hb hA hA' hr
  go_enter Tryz.func122, Tryz.ntmps122
  go_wp2_with (go_at_call 51; refine hC.out.mono ?_; rintro e w1 ⟨rfl, q, rfl⟩)
  go_ret
  exact ⟨rfl, below_drewN hbh.out q⟩
end Go.Proofs.YticgjbckfpkpjaaGreat
/- Proved here: the contracts of the landed content.Differing, content.Kind. -/
namespace Go.Proofs.YticgjbckfpkpjaaGreat
open Go.RowKit
set_option linter.unusedVariables false

/-- How far the landed Differing has come: the base, and what differs. -/
structure MetIn (w wr : World) (base : Txs) (ps : List Txs) (i : Nat) (v : Value) (rows : List Slc) : Prop where
  row : RowsO w.heap.size wr v rows (base :: diffs base (ps.take i))
  below : Below w.heap.size w wr
section
variable {w wr w2 : World} {base p : Txs} {ps : List Txs} {i : Nat} {v v' : Value} {rows : List Slc}
theorem MetIn.up (h : MetIn w wr base ps i v rows) (hb : Below wr.heap.size wr w2) : MetIn w w2 base ps i v rows := ⟨h.row.up hb, h.below.trans (hb.mono h.below.size)⟩
theorem met_mem {q : Txs} : q ∈ base :: diffs base ps ↔ q = base ∨ q ∈ ps := by
  rw [List.mem_cons, mem_diffs]
  constructor
  · rintro (h | h)
    · exact .inl h
    · exact .inr h.1
  · rintro (h | h)
    · exact .inl h
    · by_cases e : q = base
      · exact .inl e
      · exact .inr ⟨h, e⟩
theorem MetIn.old (h : MetIn w wr base ps i v rows) (hp : ps[i]? = some p) (hk : p ∈ base :: diffs base (ps.take i)) : MetIn w wr base ps (i + 1) v rows := by
  refine ⟨?_, h.below⟩
  rw [take_at hp, diffs_old (met_mem.1 hk)]
  exact h.row
theorem MetIn.put {r : Slc} {o : Obj} (h : MetIn w wr base ps i v rows) (hp : ps[i]? = some p) (hk : ¬ p ∈ base :: diffs base (ps.take i)) (hr : TxR wr w.heap.size r p)
    (hown : w2.ownsRow w.heap.size 22 1 v' (rows.length + 1) (rows.map slcV ++ [slcV r])) (hg : (wr.alloc o).grownBy w2 v.ownBlock) (hloc : v'.ownBlock = v.ownBlock ∨ v'.ownBlock = some (wr.alloc o).heap.size) : MetIn w w2 base ps (i + 1) v' (rows ++ [r]) := by
  have hs := h.below.size
  have hk2 := fun e => hk (met_mem.2 e)
  refine ⟨?_, (h.below.alloc hs o).grown hg (by simp; omega) (fun j e => (h.row.own.lt j e).1)⟩
  rw [take_at hp, diffs_new (fun e => hk2 (.inl e)) (fun e => hk2 (.inr e))]
  refine h.row.put (hr.more hs) (fun hn q o' e hq => ?_) hown hg hloc
  have := (h.row.own.lt q hq).1
  obtain ⟨b, o2, ha, hb, _⟩ := hr.2.2.2 hn
  rw [e] at ha
  injection ha with ha
  injection ha with ha1 ha2
  omega
theorem MetIn.start (A0 : Option Addr) (n0 c0 : Nat) (h : TxR w w.heap.size (A0, n0, c0) base) : MetIn w (w.alloc (.cells #[.slice A0 n0 c0] 22)) base ps 0 (.slice (some ⟨w.heap.size, 0, none⟩) 1 1) [(A0, n0, c0)] := by
  have hb : Below w.heap.size w (w.alloc (.cells #[.slice A0 n0 c0] 22)) := (Below.refl _ _).alloc (Nat.le_refl _) _
  refine ⟨⟨?_, rfl, fun k r ss h1 h2 => ?_⟩, hb⟩
  · exact ⟨rfl, .inr ⟨w.heap.size, 1, #[.slice A0 n0 c0], rfl, Nat.le_refl _, World.alloc_heap_new w _, Nat.le_refl _, by decide, rfl, rfl⟩⟩
  · match k, h1, h2 with
    | 0, h1, h2 =>
      simp at h1 h2
      subst h1
      subst h2
      refine ⟨h.up hb, fun hn q o e hq => ?_⟩
      obtain ⟨b, o2, ha, hlt, _⟩ := h.2.2.2 hn
      rw [e] at ha
      injection ha with ha
      injection ha with ha1 ha2
      simp [Value.ownBlock] at hq
      omega
    | k + 1, h1, h2 => simp at h1
end

set_option maxRecDepth 100000 in
/-- All but the first row. -/
theorem slice1_rows {w : World} {B n c : Nat} {A : Option Addr} {r : Slc} {rows : List Slc} {ss : Txs} {sss : List Txs} (h : RowsT w B A n (r :: rows) (ss :: sss)) (hn : n ≤ c) (hc : c ≤ maxLen) :
    ∃ A' m k, (∀ W : World, (Instr.slice 23 (.slice A n c) (some (.int .i64 1)) none none).run Tryz.prog W = .ok (.slice A' m k) W) ∧ m ≤ k ∧ k ≤ maxLen ∧ RowsT w B A' m rows sss := by
  have hl := h.rlen
  rw [List.length_cons] at hl
  refine ⟨(if c = 1 then A else A.map (·.add 1)), n - 1, c - 1, fun W => ?_, by omega, by omega, ⟨by rw [List.length_map]; omega, fun hn1 => ?_⟩, by simpa using h.2.1, fun k r' ss' h1 h2 => h.2.2 (k + 1) r' ss' (by simpa using h1) (by simpa using h2)⟩
  · rw [run_slice_l (P := Tryz.prog) W 23 A n c Tryz.underlying23 .i64 1 (by omega) (by omega)]
    go_simp
  · obtain ⟨b, o, rfl, hb, hcell⟩ := h.1.2 (by omega)
    rw [if_neg (by omega)]
    refine ⟨b, o + 1, ?_, hb, fun j u hu => ?_⟩
    · simp only [Option.map_some]
      unfold Addr.add
      split
      · rename_i h
        cases h
      · rfl
    · rw [Nat.add_assoc, Nat.add_comm 1 j]
      exact hcell (j + 1) u (by simpa using hu)

set_option maxRecDepth 100000 in
set_option maxHeartbeats 2000000 in
theorem dif_any (A0 : Option Addr) (n0 c0 : Nat) (base : Txs) (A : Option Addr) (n c : Nat) (rows : List Slc) (parts : List Txs) (w : World) (hn : n ≤ 100000) (hA0 : TxR w w.heap.size (A0, n0, c0) base) (hA : RowsT w w.heap.size A n rows parts) :
    Calls Tryz.prog 113 #[.slice A0 n0 c0, .slice A n c] w fun e w' => RowsOut w w' e (diffs base parts) := by
  have hl := hA.len
  obtain ⟨i0, hi, hz⟩ := Option.map_eq_some_iff.1 infoTxs
  simp only [Prod.mk.injEq] at hz
  obtain ⟨hz0, hz1, hz2⟩ := hz
  have hAh := Lib.hid hA
  have hstart := Lib.hid (MetIn.start (ps := parts) A0 n0 c0 hA0)
  clear hA hA0
  go_enter Tryz.func113, Tryz.ntmps113
  go_wp2
  go_loopw [5, 7, 12] (fun s5 _ s12 wr => ∃ (i : Nat) (v : Value) (rs : List Slc), i ≤ n ∧ v = s5 ∧ s12 = .int .i64 i ∧ Hid (MetIn w wr base parts i v rs)) (fun _ _ s12 _ => n - (intOf s12).toNat)
  case atStart => exact ⟨0, _, _, Nat.zero_le _, rfl, rfl, hstart⟩
  case round =>
    obtain ⟨i, v, rs, hin, rfl, rfl, hI⟩ := hrel
    obtain ⟨wo, rfl⟩ : ∃ wo : World, wo = wr := ⟨_, rfl⟩
    obtain ⟨Av, cv, rfl, hv1, hv2, hvR⟩ := hI.out.row.reads
    have hrl : rs.length ≤ i + 1 := by
      have h1 := hI.out.row.len
      have h2 := diffs_len base (parts.take i)
      have h3 := List.length_take_le i parts
      rw [List.length_cons] at h1
      omega
    by_cases hlt : i < n
    · obtain ⟨b, o, A1, n1, c1, p, rfl, hb, hp, hrow, hc, hnc, hcm, hst⟩ := (hAh.out.below hI.out.below).at_ (k := i) hlt
      have hi1 : (0 : Int) ≤ (i : Int) := by omega
      have hi2 : (i : Int) < (n : Int) := by omega
      have hH := has_any Av A1 rs.length cv n1 c1 rs _ p wo (by omega) (by omega) hvR (hst.more hI.out.below.size)
      obtain ⟨kn, hkn⟩ : ∃ kn, decide (p ∈ base :: diffs base (parts.take i)) = kn := ⟨_, rfl⟩
      rw [hkn] at hH
      have hHh := Lib.hid hH
      have hknh := Lib.hid hkn
      have hph := Lib.hid hp
      have hTx : Hid (TxR wo w.heap.size (A1, n1, n1) p) := Lib.hid ⟨Nat.le_refl _, by show n1 ≤ maxLen; omega, hst⟩
      clear hH hkn hp hst hrow hvR
      cases kn
      · have hno : ¬ p ∈ base :: diffs base (parts.take i) := by have := hknh.out; simpa using this
        have hmax : Hid (rs.length + 1 ≤ maxLen ∧ (rs.length + 1) * 24 ≤ 140737488355328) := Lib.hid ⟨by unfold maxLen; omega, by omega⟩
        have hnoh := Lib.hid hno
        have hcl := Lib.hid (fun W => clip_any A1 n1 c1 W hnc hcm)
        clear hno
        go_wp2_with (first
          | (go_at_call 122; refine hHh.out.mono ?_; rintro e w1 ⟨rfl, hb1⟩; have hI1 := Lib.hid (hI.out.up hb1); have hown := hI1.out.row.own; have hsz := hI1.out.below.size; have hfin := Lib.hid (fun v' w2 => hI1.out.put (v' := v') (w2 := w2) (r := (A1, n1, n1)) (o := .cells #[.slice A1 n1 n1] 22) hph.out hnoh.out (hTx.out.below (hb1.mono hI.out.below.size))); clear hb1)
          | (go_at_call 123; refine (hcl.out _).mono ?_; rintro e w3 ⟨rfl, rfl⟩)
          | (at_builtin; refine wpList_append_own_at _ rfl _ _ 23 rfl w.heap.size 22 i0 (.slice none 0 0) 1 24 Tryz.underlying23 hi hz0 hz1 hz2 rfl (by decide) (.slice Av rs.length cv) rs.length _ rfl (hown.alloc _) ⟨w3.heap.size, 0, none⟩ 1 1 [.slice A1 n1 n1] rfl rfl (cell_one_new _ _ _) (by simp [Value.oneCell']) hmax.out.1 hmax.out.2 (by simp; omega) ?_; intro v' w2 hown2 hg2 hnil2 hloc2; clear hnil2))
        go_roundw
        case rel => exact ⟨i + 1, v', _, by omega, rfl, by go_num, Lib.hid (hfin.out v' w2 hown2 hg2 hloc2)⟩
        case measure => simp [intOf]; omega
      · have hyes : p ∈ base :: diffs base (parts.take i) := by have := hknh.out; simpa using this
        have hyesh := Lib.hid hyes
        clear hyes
        go_wp2_with (go_at_call 122; refine hHh.out.mono ?_; rintro e w1 ⟨rfl, hb1⟩; have hfin := Lib.hid ((hI.out.up hb1).old hph.out hyesh.out); clear hb1)
        go_roundw
        case rel => exact ⟨i + 1, .slice Av rs.length cv, rs, by omega, rfl, by go_num, hfin⟩
        case measure => simp [intOf]; omega
    · obtain rfl : i = n := by omega
      have ht : parts.take i = parts := List.take_of_length_le (by omega)
      obtain ⟨N, hN⟩ : ∃ N, rs.length = N := ⟨_, rfl⟩
      have hsl : ∃ A' m k rs', (∀ W : World, (Instr.slice 23 (.slice Av N cv) (some (.int .i64 1)) none none).run Tryz.prog W = .ok (.slice A' m k) W) ∧ m ≤ k ∧ k ≤ maxLen ∧ RowsT wo wo.heap.size A' m rs' (diffs base parts) := by
        match rs, hvR, hI, hN with
        | [], hvR, hI, hN => have := hI.out.row.len; simp at this
        | r :: rs', hvR, hI, hN =>
          rw [ht, hN] at hvR
          obtain ⟨A2, m2, k2, hs, h1, h2, h3⟩ := slice1_rows hvR (by omega) hv2
          exact ⟨A2, m2, k2, rs', hs, h1, h2, h3⟩
      obtain ⟨A2, m2, k2, rs', hs, h1, h2, h3⟩ := hsl
      have h3h := Lib.hid (And.intro h1 (And.intro h2 h3))
      rw [hN]
      clear hvR h1 h2 h3 hv1 hv2 hN hrl
      go_wp2
      go_ret
      exact ⟨A2, m2, k2, _, rfl, h3h.out.1, h3h.out.2.1, h3h.out.2.2, hI.out.below⟩

set_option maxRecDepth 100000 in
set_option maxHeartbeats 800000 in
theorem kind_any (A0 : Option Addr) (n0 c0 : Nat) (base : Txs) (A : Option Addr) (n c : Nat) (rows : List Slc) (parts : List Txs) (w : World) (hn : n ≤ 100000) (hA0 : TxR w w.heap.size (A0, n0, c0) base) (hA : RowsT w w.heap.size A n rows parts) :
    Calls Tryz.prog 114 #[.slice A0 n0 c0, .slice A n c] w fun e w' => e = .returned (.int .i64 (kindN base parts)) ∧ Below w.heap.size w w' := by
  have hD := Lib.hid (dif_any A0 n0 c0 base A n c rows parts w hn hA0 hA)
  clear hA0 hA
  obtain ⟨d, hd⟩ : ∃ d, (diffs base parts).length = d := ⟨_, rfl⟩
  have hk : kindN base parts = min d 2 := by unfold kindN; rw [hd]
  have hdh := Lib.hid hd
  rw [hk]
  clear hd hk
  rcases Nat.lt_trichotomy d 1 with h | h | h
  · obtain rfl : d = 0 := by omega
    go_enter Tryz.func114, Tryz.ntmps114
    go_wp2_with (go_at_call 113; refine hD.out.mono ?_; rintro e w1 ⟨A1, n1, c1, rs, rfl, h3, h4, h5, h6⟩; have hn1 := h5.len; rw [hdh.out] at hn1; subst hn1)
    go_ret
    exact ⟨rfl, h6⟩
  · subst h
    go_enter Tryz.func114, Tryz.ntmps114
    go_wp2_with (go_at_call 113; refine hD.out.mono ?_; rintro e w1 ⟨A1, n1, c1, rs, rfl, h3, h4, h5, h6⟩; have hn1 := h5.len; rw [hdh.out] at hn1; subst hn1)
    go_ret
    exact ⟨rfl, h6⟩
  · have e0 : ((d : Int) == 0) = false := by simp; omega
    have e1 : ((d : Int) == 1) = false := by simp; omega
    have hm : min d 2 = 2 := by omega
    rw [hm]
    go_enter Tryz.func114, Tryz.ntmps114
    go_wp2_with (go_at_call 113; refine hD.out.mono ?_; rintro e w1 ⟨A1, n1, c1, rs, rfl, h3, h4, h5, h6⟩; have hn1 := h5.len; rw [hdh.out] at hn1; subst hn1)
    go_ret
    exact ⟨rfl, h6⟩
end Go.Proofs.YticgjbckfpkpjaaGreat
/- What the statements ask of pick.Piece. -/
namespace Go.Proofs.YticgjbckfpkpjaaGreat
open Go.RowKit
set_option linter.unusedVariables false

/-- The contract of pick.Piece. -/
def PickPieceOk : Prop := ∀ (A0 : Option Addr) (n0 c0 : Nat) (base : Txs) (A : Option Addr) (n c : Nat) (rows : List Slc) (ps : List Txs) (fav : Int) (un : Bool) (w : World), n ≤ c → c ≤ maxLen → n ≤ 100 → inR64 fav → smallT base ps → TxR w w.heap.size (A0, n0, c0) base → RowsT w w.heap.size A n rows ps →
    Calls Tryz.prog 100 #[.slice A0 n0 c0, .slice A n c, .agg #[.int .i64 fav, .bool un]] w fun e w' => PieceOut w w' e (pieceD base ps fav un)
end Go.Proofs.YticgjbckfpkpjaaGreat
