/- Proved here: texts joined: PkFns, RowF, PkConf, NmPure. -/
import Derived.Test.YtcjmmidnfjifaaaGreatDoorBm04
import Derived.Test.YtcjmmidnfjifaaaGreatDoorBm08
import Derived.Test.YtcjmmidnfjifaaaGreatDoorBm11
import Derived.Test.YtcjmmidnfjifaaaGreatDoorBm12
import Derived.RangeFuncBox
import Derived.Deep.DeepCutAuto
import Derived.Outline
import Derived.Test.YtcjmmidnfjifaaaGreatDoorChecked
import Derived.Deep.OwnRows
/- Proved here: contracts of what the landed package pick calls of slices, and of its small functions: Clone, text. -/
namespace Go.Proofs.YtcjmmidnfjifaaaGreatDoor
open Go.RowKit
set_option linter.unusedVariables false

theorem ownsRow_low {w : World} {base base' : Nat} {e : TypeId} {size : Nat} {v : Value} {n : Nat} {xs : List Value} (h : w.ownsRow base e size v n xs) (hb : base' ≤ base) : w.ownsRow base' e size v n xs := by
  refine ⟨h.1, ?_⟩
  rcases h.2 with h | ⟨g, cap, cur, hv, h1, r⟩
  · exact .inl h
  · exact .inr ⟨g, cap, cur, hv, Nat.le_trans hb h1, r⟩

/-- Texts of the call's own, told. -/
def OwnOut (w w' : World) (e : Ending) (xs : Txs) : Prop := ∃ v, e = .returned v ∧ TxO w w' v xs

set_option maxHeartbeats 800000 in
theorem cloneT_any (A : Option Addr) (n c B : Nat) (ss : Txs) (w : World) (hn : n ≤ 1000000000) (hB : B ≤ w.heap.size) (hA : Strs w B A n ss) :
    Calls Tryz.prog 82 #[.slice A n c] w fun e w' => OwnOut w w' e ss := by
  have hl := hA.len
  obtain ⟨i0, hi, hzz⟩ := Option.map_eq_some_iff.1 infoStr
  simp only [Prod.mk.injEq] at hzz
  obtain ⟨hz0, hz1, hz2⟩ := hzz
  have hw0 : (w.alloc (.cells #[] 9)).ownsRow w.heap.size 9 1 (.slice (some ⟨w.heap.size, 0, none⟩) 0 0) 0 [] := own_empty w w.heap.size _ (Nat.le_refl _)
  have hB0 : Below w.heap.size w (w.alloc (.cells #[] 9)) := (Below.refl _ _).alloc (Nat.le_refl _) _
  have hm : Hid (0 + n ≤ maxLen ∧ (0 + n) * 16 ≤ 140737488355328) := Lib.hid ⟨by unfold maxLen; omega, by omega⟩
  cases A with
  | none =>
    have h0 : n = 0 := by
      rcases Nat.eq_zero_or_pos n with h0 | h0
      · exact h0
      · obtain ⟨_, _, h, _⟩ := hA.2 h0
        cases h
    subst h0
    obtain rfl : ss = [] := List.eq_nil_of_length_eq_zero hl
    have hq : ∀ W : World, (binOp .eql 25 (.slice none 0 c) (.slice none 0 0)).run Tryz.prog W = .ok (.bool true) W := fun W => Lib.run_eql_slice_nil W _ _ _ _ _ _ _ Tryz.underlying25
    go_enter Tryz.func82, Tryz.ntmps82
    go_wp2
    go_ret
    exact ⟨_, rfl, World.ownsRow_nil _ _ _ _, Below.refl _ _⟩
  | some p =>
    have hA0 := Lib.hid ((hA.more hB).below hB0)
    have hlh := Lib.hid hl
    clear hA hl
    have hq : ∀ W : World, (binOp .eql 25 (.slice (some p) n c) (.slice none 0 0)).run Tryz.prog W = .ok (.bool false) W := fun W => Lib.run_eql_slice_nil W _ _ _ _ _ _ _ Tryz.underlying25
    go_enter Tryz.func82, Tryz.ntmps82
    go_wp2_with (at_builtin; refine wpList_append_reads _ rfl _ _ 25 rfl w.heap.size 9 i0 (.string ByteArray.empty) 16 Tryz.underlying25 hi hz0 hz1 hz2 rfl _ 0 [] rfl hw0 w.heap.size (some p) n c _ rfl hA0.out (strs_one _) hm.out.1 hm.out.2 hB0.size ?_; intro v1 w1 hown1 hg1; have hB1 : Below w.heap.size w w1 := hB0.grown hg1 hB0.size (fun j e => (hw0.lt j e).1); rw [Nat.zero_add, List.nil_append] at hown1)
    go_ret
    exact ⟨_, rfl, by rw [hlh.out]; exact hown1, hB1⟩

/-- What a cell of a piece leaves. -/
theorem but_piece (w : World) (L : Nat) (hL : w.heap.size ≤ L) {w1 : World} (hb : Below w.heap.size w w1) (u0 u1 u2 u3 : Value) : Below w.heap.size w ((((w1.setCell ⟨L, 0, none⟩ u0).setCell ⟨L, 1, none⟩ u1).setCell ⟨L, 2, none⟩ u2).setCell ⟨L, 3, none⟩ u3) :=
  hb.trans ((But.piece w1 L u0 u1 u2 u3).below hb.size (by rintro k rfl; exact hL))

/-- A text, as the landed text makes it: a copy of the call's own. -/
def TextOut (w w' : World) (e : Ending) (xs : Txs) : Prop := ∃ A c, e = .returned (.agg #[.bool false, .slice A xs.length c, .slice none 0 0, .slice none 0 0]) ∧ TxO w w' (.slice A xs.length c) xs
theorem TextOut.piece {w w' : World} {e : Ending} {xs : Txs} (h : TextOut w w' e xs) : PieceOut w w' e (tPc xs) := by
  obtain ⟨A, c, rfl, hT⟩ := h
  obtain ⟨A', c', e1, h1, h2, h3⟩ := own_slice hT.own
  injection e1 with e2 e3 e4
  subst e2
  subst e4
  exact ⟨((A, xs.length, c), (none, 0, 0), (none, 0, 0)), rfl, PcR.text ⟨h1, h2, h3⟩, hT.below⟩

set_option maxHeartbeats 1000000 in
theorem text_any (A : Option Addr) (n c B : Nat) (ss : Txs) (w : World) (hn : n ≤ 1000000000) (hB : B ≤ w.heap.size) (hA : Strs w B A n ss) :
    Calls Tryz.prog 66 #[.slice A n c] w fun e w' => TextOut w w' e ss := by
  obtain ⟨W0, hW0⟩ : ∃ W0, W0 = w.alloc (.cells #[.bool false, .slice none 0 0, .slice none 0 0, .slice none 0 0] 36) := ⟨_, rfl⟩
  have hb0 : Below w.heap.size w W0 := by rw [hW0]; exact (Below.refl _ w).alloc (Nat.le_refl _) _
  have k0 : W0.heap[w.heap.size]? = some (.cells #[.bool false, .slice none 0 0, .slice none 0 0, .slice none 0 0] 36 (0, 0)) := by rw [hW0]; exact Go.Deep.blk_alloc_new w _
  have hs0 : W0.heap.size = w.heap.size + 1 := by rw [hW0]; simp
  have hC := Lib.hid (cloneT_any A n c B ss W0 hn (by omega) (hA.below (hb0.mono hB)))
  have hb0h := Lib.hid hb0
  have k0h := Lib.hid k0
  have hs0h := Lib.hid hs0
  have hW0h := Lib.hid hW0
  clear hA hb0 k0 hs0 hW0
  go_enter Tryz.func66, Tryz.ntmps66
  go_upto_region 1 with fail
  rw [← hW0h.out]
  go_wp2_with (go_at_call 82; refine hC.out.mono ?_; rintro e w1 ⟨v, rfl, hT⟩; obtain ⟨A1, c1, rfl, h1, h2, h3⟩ := own_slice hT.own; have k1 : w1.heap[w.heap.size]? = _ := ((hT.below.block _ (by have := hs0h.out; omega)).trans k0h.out); obtain ⟨e0, e1, e2, e3, z0, z1, z2, z3⟩ := piece_at k1; have hTh := Lib.hid hT; clear hT h1 h2 h3 k1)
  refine bodyPost_ret (v := .agg #[.bool false, .slice A1 ss.length c1, .slice none 0 0, .slice none 0 0]) (by simp [results, Tryz.results66, go_sem, World.cell?_setCell_same', e0, e1, e2, e3]) rfl ?_
  refine ⟨A1, c1, rfl, ?_, but_piece w w.heap.size (Nat.le_refl _) (hb0h.out.trans (hTh.out.below.mono hb0h.out.size)) _ _ _ _⟩
  have h1 := hTh.out.own
  refine ownsRow_kept (ownsRow_low h1 hb0h.out.size) fun k e => ?_
  have h2 := (h1.lt k e)
  have h3 := hs0h.out
  exact (But.piece w1 w.heap.size _ _ _ _).block k h2.2 (by omega)
end Go.Proofs.YtcjmmidnfjifaaaGreatDoor
/- Proved here, without conditions: a new slice of slices of texts, and its cells as they are set one by one. -/
namespace Go.Proofs.YtcjmmidnfjifaaaGreatDoor
open Go.RowKit
set_option linter.unusedVariables false

theorem make_rows (n : Nat) (hn : n ≤ 1000000) (w : World) : (Instr.makeSlice 34 (.int .i64 (n : Int)) (.int .i64 (n : Int))).run Tryz.prog w = .ok (.slice (some ⟨w.heap.size, 0, none⟩) n n) (w.alloc (.cells (madeCells #[.slice none 0 0] n) 25)) := by
  obtain ⟨i, hi, hzz⟩ := Option.map_eq_some_iff.1 infoTxs
  simp only [Prod.mk.injEq] at hzz
  obtain ⟨hz, hs, hb⟩ := hzz
  have := run_make (P := Tryz.prog) w 34 25 i (.slice none 0 0) Tryz.underlying34 hi hz .i64 .i64 n n (by omega) (Int.le_refl _) (by rw [hb]; omega) (by omega)
  simp only [Int.toNat_natCast, hs, Nat.mul_one] at this
  exact this

/-- The cells of parts, as far as they are asked. -/
def rowF (rs : List Slc) (i : Nat) : Value := slcV (rs.getD i (none, 0, 0))
theorem rowF_set {w : World} {G n k : Nat} {rs : List Slc} {r : Slc} (h : w.rowIs G 25 n (rowF rs)) (hk : rs.length = k) : (w.setCell ⟨G, k, none⟩ (slcV r)).rowIs G 25 n (rowF (rs ++ [r])) := by
  refine (h.set k _).congr fun i hi => ?_
  unfold rowF
  subst hk
  by_cases e : i = rs.length
  · subst e
    simp
  · rw [if_neg e]
    congr 1
    rw [List.getD_eq_getElem?_getD, List.getD_eq_getElem?_getD]
    rcases Nat.lt_or_ge i rs.length with h1 | h1
    · rw [List.getElem?_append_left h1]
    · rw [List.getElem?_eq_none h1, List.getElem?_eq_none (by simp; omega)]

end Go.Proofs.YtcjmmidnfjifaaaGreatDoor
/- Proved here: the contract of the landed package pick's conflict: a copy of the call's own. -/
namespace Go.Proofs.YtcjmmidnfjifaaaGreatDoor
open Go.RowKit
set_option linter.unusedVariables false

/-- What a call has made stands, whatever becomes of what lay ahead of it. -/
theorem TxO.stay {F : Nat → Prop} {w w1 w2 : World} {A : Option Addr} {n c : Nat} {xs : Txs} (h : TxO w w1 (.slice A n c) xs) (hb : But F w1 w2) (hF : ∀ k, F k → k < w.heap.size) : TxR w2 w2.heap.size (A, n, c) xs := by
  have h1 := ownsRow_kept h.own (w' := w2) fun k e => hb.block k (h.own.lt k e).2 (fun hf => by have := hF k hf; have := (h.own.lt k e).1; omega)
  obtain ⟨A', c', e, r1, r2, r3⟩ := own_slice h1
  injection e with e1 e2 e3
  subst e1
  subst e2
  subst e3
  exact ⟨r1, r2, r3⟩

/-- A conflict of the call's own, told. -/
def ConfOut (w w' : World) (e : Ending) (b : Txs) (s : List Txs) : Prop := ∃ Ab nb cb As ns cs, e = .returned (.agg #[.bool true, .slice none 0 0, .slice Ab nb cb, .slice As ns cs]) ∧
  (∀ w2, But (fun k => k < w.heap.size) w' w2 → PcR w2 w2.heap.size ((none, 0, 0), (Ab, nb, cb), (As, ns, cs)) (cPc b s)) ∧ Below w.heap.size w w'

/-- How far the copies have come. -/
structure ConfIn (w wr : World) (n G k : Nat) (ps : List Txs) (rs : List Slc) : Prop where
  box : wr.heap[w.heap.size]? = some (.cells #[.bool false, .slice none 0 0, .slice none 0 0, .slice none 0 0] 36 (0, 0))
  row : wr.rowIs G 25 n (rowF rs)
  far : G = w.heap.size + 1
  len : rs.length = k
  below : Below w.heap.size w wr
  each : ∀ (i : Nat) (r : Slc) (l : Txs), rs[i]? = some r → ps[i]? = some l → ∀ w2, But (fun k => k ≤ G) wr w2 → TxR w2 w2.heap.size r l
section
variable {w W0 wr w1 : World} {n G k : Nat} {ps : List Txs} {rs : List Slc}
theorem ConfIn.start (hW : W0 = w.alloc (.cells #[.bool false, .slice none 0 0, .slice none 0 0, .slice none 0 0] 36)) : ConfIn w (W0.alloc (.cells (madeCells #[.slice none 0 0] n) 25)) n W0.heap.size 0 ps [] := by
  have hb : Below w.heap.size w W0 := by rw [hW]; exact (Below.refl _ w).alloc (Nat.le_refl _) _
  have hs : W0.heap.size = w.heap.size + 1 := by rw [hW]; simp
  refine ⟨?_, (World.rowIs_made W0 _ _ _).congr fun i _ => rfl, hs, rfl, hb.alloc hb.size _, fun i r l h => by simp at h⟩
  rw [push_at, if_neg (by omega), hW]
  exact Go.Deep.blk_alloc_new w _
theorem ConfIn.put {A : Option Addr} {m c : Nat} {l : Txs} (h : ConfIn w wr n G k ps rs) (hl : ps[k]? = some l) (hT : TxO wr w1 (.slice A m c) l) : w1.rowIs G 25 n (rowF rs) ∧ ConfIn w (w1.setCell ⟨G, k, none⟩ (.slice A m c)) n G (k + 1) ps (rs ++ [(A, m, c)]) := by
  have hb1 : But (fun j => j = G) w1 (w1.setCell ⟨G, k, none⟩ (.slice A m c)) := But.setCell (F := fun j => j = G) w1 (p := ⟨G, k, none⟩) rfl _
  have hrow : w1.rowIs G 25 n (rowF rs) := h.row.of_block (hT.below.block _ h.row.lt)
  have hw := (Array.getElem?_eq_some_iff.1 h.box).1
  have hG := h.row.lt
  have hs := hT.below.size
  have hf := h.far
  have hb2 : But (fun j => j = G) wr (w1.setCell ⟨G, k, none⟩ (.slice A m c)) := (But.of_below (F := fun j => j = G) hT.below fun q hq _ => hq).trans hb1 fun q e => .inl e
  refine ⟨hrow, (hb2.block _ hw (by omega)).trans h.box, rowF_set (r := (A, m, c)) hrow h.len, hf, by simp [h.len], h.below.trans (hb2.below h.below.size (by rintro q rfl; omega)), fun i r l' h1 h2 w2 h3 => ?_⟩
  have hlen := h.len
  rcases Nat.lt_or_ge i rs.length with hi | hi
  · rw [List.getElem?_append_left hi] at h1
    exact h.each i r l' h1 h2 w2 ((hb2.more (F' := fun k => k ≤ G) (by rintro q rfl; exact Nat.le_refl _)).trans h3 fun q e => .inl e)
  · rw [List.getElem?_append_right hi] at h1
    have hik : i = k := by
      have := (List.getElem?_eq_some_iff.1 h1).1
      simp at this
      omega
    subst hik
    simp [hlen] at h1
    rw [hl] at h2
    injection h2 with h2
    subst h1
    subst h2
    exact hT.stay ((hb1.more (F' := fun k => k ≤ G) (by rintro q rfl; exact Nat.le_refl _)).trans h3 fun q e => .inl e) (by intro q hq; omega)
theorem ConfIn.done {Ab : Option Addr} {nb cb : Nat} {base : Txs} (h : ConfIn w wr n G n ps rs) (hps : ps.length = n) (hn : n ≤ maxLen) (hT : TxO wr w1 (.slice Ab nb cb) base) (u0 u1 u2 u3 : Value) :
    ConfOut w ((((w1.setCell ⟨w.heap.size, 0, none⟩ u0).setCell ⟨w.heap.size, 1, none⟩ u1).setCell ⟨w.heap.size, 2, none⟩ u2).setCell ⟨w.heap.size, 3, none⟩ u3) (.returned (.agg #[.bool true, .slice none 0 0, .slice Ab nb cb, .slice (some ⟨G, 0, none⟩) n n])) base ps := by
  have hG := h.row.lt
  have hf := h.far
  have hB := But.piece w1 w.heap.size u0 u1 u2 u3
  refine ⟨Ab, nb, cb, _, n, n, rfl, fun w2 h2 => ?_, (h.below.trans (hT.below.mono h.below.size)).trans (hB.below (Nat.le_trans h.below.size hT.below.size) (by rintro k rfl; exact Nat.le_refl _))⟩
  have hb1 : But (fun k => k ≤ w.heap.size) w1 w2 := (hB.more (F' := fun k => k ≤ w.heap.size) (by rintro q rfl; exact Nat.le_refl _)).trans h2 fun q (e : q < w.heap.size) => .inl (by omega)
  have hb2 : But (fun k => k ≤ w.heap.size) wr w2 := (But.of_below (F := fun k => k ≤ w.heap.size) hT.below fun q hq _ => hq).trans hb1 fun q e => .inl e
  refine PcR.conf (hT.stay hb1 (by intro q hq; omega)) ⟨Nat.le_refl _, hn, rs, ?_, by rw [hps]; exact h.len, fun k r ss a b => h.each k r ss a b w2 (hb2.more fun q (hq : q ≤ w.heap.size) => by omega)⟩
  refine reads_of_row (h.row.of_block (hb2.block G hG (by omega))) _ (by rw [List.length_map]; exact h.len) fun i u hu => ?_
  rw [List.getElem?_map] at hu
  unfold rowF
  rw [List.getD_eq_getElem?_getD]
  cases h : rs[i]? with
  | none => rw [h] at hu; cases hu
  | some r => rw [h] at hu; simpa using hu
end

set_option maxRecDepth 100000 in
set_option maxHeartbeats 2000000 in
theorem conflict_any (A0 : Option Addr) (n0 c0 : Nat) (base : Txs) (A : Option Addr) (n c : Nat) (rows : List Slc) (ps : List Txs) (w : World) (hn : n ≤ 1000) (hsm : ∀ d ∈ base :: ps, d.length ≤ 1000000) (hA0 : TxR w w.heap.size (A0, n0, c0) base) (hA : RowsT w w.heap.size A n rows ps) :
    Calls Tryz.prog 67 #[.slice A0 n0 c0, .slice A n c] w fun e w' => ConfOut w w' e base ps := by
  obtain ⟨W0, hW0⟩ : ∃ W0, W0 = w.alloc (.cells #[.bool false, .slice none 0 0, .slice none 0 0, .slice none 0 0] 36) := ⟨_, rfl⟩
  have hl := hA.len
  have hlh := Lib.hid hl
  have hsmh := Lib.hid hsm
  have hAh := Lib.hid hA
  have hA0h := Lib.hid hA0
  have hst := Lib.hid (ConfIn.start (n := n) (ps := ps) hW0)
  have hmk := make_rows n (by omega)
  have hW0h := Lib.hid hW0
  clear hA hA0 hsm hW0 hl
  go_enter Tryz.func67, Tryz.ntmps67
  go_upto_region 1 with fail
  rw [← hW0h.out]
  go_wp2
  obtain ⟨G, hG⟩ : ∃ G, W0.heap.size = G := ⟨_, rfl⟩
  rw [hG] at hst ⊢
  clear hG
  go_loopw [6, 7, 13] (fun _ _ s13 wr => ∃ (k : Nat) (rs : List Slc), k ≤ n ∧ s13 = .int .i64 k ∧ Hid (ConfIn w wr n G k ps rs)) (fun _ _ s13 _ => n - (intOf s13).toNat)
  case atStart => exact ⟨0, [], Nat.zero_le _, rfl, hst⟩
  case round =>
    obtain ⟨k, rs, hkn, rfl, hP⟩ := hrel
    obtain ⟨wo, rfl⟩ : ∃ wo : World, wo = wr := ⟨_, rfl⟩
    clear hst
    by_cases hlt : k < n
    · obtain ⟨b, o, A2, n2, c2, l, rfl, hb, hll, hrow, hc, hnc, hcm, hSt⟩ := (hAh.out.below hP.out.below).at_ (k := k) hlt
      have i1 : (0 : Int) ≤ (k : Int) := by omega
      have i2 : (k : Int) < (n : Int) := by omega
      have hln : n2 ≤ 1000000000 := by have := hsmh.out l (List.mem_cons_of_mem _ (List.mem_of_getElem? hll)); have := hSt.len; omega
      have hC := Lib.hid (cloneT_any A2 n2 c2 w.heap.size l wo hln hP.out.below.size hSt)
      have hllh := Lib.hid hll
      clear hll hrow hSt hln hnc hcm
      go_wp2_with (go_at_call 82; refine hC.out.mono ?_; rintro e w1 ⟨v, rfl, hT⟩; obtain ⟨A3, c3, rfl, r1, r2, r3⟩ := own_slice hT.own; have hP2 := Lib.hid (hP.out.put hllh.out hT); have z1 := hP2.out.1.cell hlt; have z2 := hP2.out.1.frozen k; clear hT r1 r2 r3)
      go_roundw
      case rel => exact ⟨k + 1, _, by omega, by go_num, Lib.hid hP2.out.2⟩
      case measure => simp [intOf]; omega
    · obtain rfl : k = n := by omega
      have hln : n0 ≤ 1000000000 := by have := hsmh.out base (List.mem_cons_self ..); have := hA0h.out.2.2.len; dsimp only at this; omega
      have hC := Lib.hid (cloneT_any A0 n0 c0 w.heap.size base wo hln hP.out.below.size (hA0h.out.below hP.out.below).2.2)
      clear hln
      go_wp2_with (go_at_call 82; refine hC.out.mono ?_; rintro e w1 ⟨v, rfl, hT⟩; obtain ⟨A3, c3, rfl, r1, r2, r3⟩ := own_slice hT.own; have k1 : w1.heap[w.heap.size]? = _ := ((hT.below.block _ (Array.getElem?_eq_some_iff.1 hP.out.box).1).trans hP.out.box); obtain ⟨e0, e1, e2, e3, z0, z1, z2, z3⟩ := piece_at k1; have hTh := Lib.hid hT; clear hT r1 r2 r3 k1)
      refine bodyPost_ret (v := .agg #[.bool true, .slice none 0 0, .slice A3 base.length c3, .slice (some ⟨G, 0, none⟩) k k]) (by simp [results, Tryz.results67, go_sem, World.cell?_setCell_same', e0, e1, e2, e3]) rfl ?_
      exact hP.out.done hlh.out (by unfold maxLen; omega) hTh.out _ _ _ _
end Go.Proofs.YtcjmmidnfjifaaaGreatDoor
/- Proved here, without conditions: plain facts on pieces that are put behind others, as the landed Normal does it. -/
namespace Go.Proofs.YtcjmmidnfjifaaaGreatDoor
set_option linter.unusedVariables false

/-- One more piece behind pieces that are put together. -/
def pushT (l : List Pc) (t : Txs) : List Pc := match l.getLast? with
  | some (false, x, b, s) => l.dropLast ++ [(false, x ++ t, b, s)]
  | _ => l ++ [tPc t]
def pushP (l : List Pc) (p : Pc) : List Pc := if p.1 = true then l ++ [cPc p.2.2.1 p.2.2.2] else if p.2.1 = [] then l else pushT l p.2.1
theorem pushT_cons (x : Pc) {l : List Pc} (t : Txs) (h : l ≠ [] ∨ x.1 = true) : pushT (x :: l) t = x :: pushT l t := by
  unfold pushT
  cases l with
  | nil =>
    obtain ⟨c, a, b, s⟩ := x
    rcases h with h | h
    · exact absurd rfl h
    · simp at h
      subst h
      rfl
  | cons y l =>
    rw [List.getLast?_cons_cons]
    cases hl : (y :: l).getLast? with
    | none => simp at hl
    | some q =>
      obtain ⟨c, a, b, s⟩ := q
      cases c
      · simp
      · simp
theorem push_cons (x : Pc) {l : List Pc} (p : Pc) (h : l ≠ [] ∨ x.1 = true) : pushP (x :: l) p = x :: pushP l p := by
  unfold pushP
  split
  · rfl
  · split
    · rfl
    · exact pushT_cons x _ h
theorem join_push (t : Txs) (p : Pc) : ∀ l : List Pc, joinT t (pushP l p) = pushP (joinT t l) p
  | [] => by
    obtain ⟨c, x, b, s⟩ := p
    cases c
    · by_cases hx : x = []
      · subst hx
        simp [pushP]
      · by_cases ht : t = [] <;> simp [pushP, pushT, joinT, hx, ht, tPc]
    · by_cases ht : t = [] <;> simp [pushP, joinT, ht, cPc, tPc]
  | (true, x, b, s) :: r => by
    rw [push_cons _ _ (.inr rfl)]
    show (if t = [] then (true, x, b, s) :: pushP r p else tPc t :: (true, x, b, s) :: pushP r p) = pushP (if t = [] then (true, x, b, s) :: r else tPc t :: (true, x, b, s) :: r) p
    by_cases ht : t = []
    · rw [if_pos ht, if_pos ht, push_cons _ _ (.inr rfl)]
    · rw [if_neg ht, if_neg ht, push_cons _ _ (.inl (by simp)), push_cons _ _ (.inr rfl)]
  | [(false, x, b, s)] => by
    obtain ⟨c, y, b', s'⟩ := p
    cases c
    · by_cases hy : y = []
      · subst hy
        simp [pushP]
      · simp [pushP, pushT, joinT, hy]
    · simp [pushP, joinT]
  | (false, x, b, s) :: y :: r => by
    rw [push_cons (false, x, b, s) (l := y :: r) p (.inl (by simp))]
    show (false, t ++ x, b, s) :: pushP (y :: r) p = pushP ((false, t ++ x, b, s) :: y :: r) p
    rw [push_cons (false, t ++ x, b, s) (l := y :: r) p (.inl (by simp))]
theorem normal_snoc (p : Pc) : ∀ l : List Pc, normal (l ++ [p]) = pushP (normal l) p
  | [] => by
    obtain ⟨c, x, b, s⟩ := p
    cases c
    · by_cases hx : x = [] <;> simp [normal, pushP, pushT, joinT, hx, tPc]
    · simp [normal, pushP, cPc]
  | (true, x, b, s) :: l => by
    rw [List.cons_append, normal, normal_snoc p l, normal, push_cons _ _ (.inr rfl)]
  | (false, x, b, s) :: l => by
    rw [List.cons_append, normal, normal_snoc p l, normal, join_push]
theorem normal_take {ps : List Pc} {i : Nat} {p : Pc} (h : ps[i]? = some p) : normal (ps.take (i + 1)) = pushP (normal (ps.take i)) p := by
  rw [take_at h, normal_snoc]
theorem push_conf (l : List Pc) (t b : Txs) (s : List Txs) : pushP l (true, t, b, s) = l ++ [cPc b s] := rfl
theorem push_empty (l : List Pc) (b : Txs) (s : List Txs) : pushP l (false, [], b, s) = l := rfl
theorem push_text (l : List Pc) {t : Txs} (b : Txs) (s : List Txs) (h : t ≠ []) : pushP l (false, t, b, s) = pushT l t := by simp [pushP, h]
theorem pushT_new {l : List Pc} (t : Txs) (h : ∀ q, l.getLast? = some q → q.1 = true) : pushT l t = l ++ [tPc t] := by
  unfold pushT
  cases hl : l.getLast? with
  | none => rfl
  | some q =>
    obtain ⟨c, x, b, s⟩ := q
    have := h _ hl
    simp at this
    subst this
    rfl
theorem pushT_old (l : List Pc) (x t b : Txs) (s : List Txs) : pushT (l ++ [(false, x, b, s)]) t = l ++ [(false, x ++ t, b, s)] := by
  unfold pushT
  simp
end Go.Proofs.YtcjmmidnfjifaaaGreatDoor
