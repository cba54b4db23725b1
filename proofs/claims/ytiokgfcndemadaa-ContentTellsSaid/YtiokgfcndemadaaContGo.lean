/- Proved here: the contract of the landed content.Parts, as the laws of layer 6 ask it. -/
import Derived.Test.YtiokgfcndemadaaContAsk
import Derived.Test.YtiokgfcndemadaaContOk
namespace Go.Proofs.Ytiokgfcndemadaa
open Go.RowKit
set_option linter.unusedVariables false

theorem make_rows (n : Nat) (hn : n ≤ 1000000) (w : World) : (Instr.makeSlice 28 (.int .i64 (n : Int)) (.int .i64 (n : Int))).run Try.prog w = .ok (.slice (some ⟨w.heap.size, 0, none⟩) n n) (w.alloc (.cells (madeCells #[.slice none 0 0] n) 27)) := by
  obtain ⟨i, hi, hzz⟩ := Option.map_eq_some_iff.1 infoTxs
  simp only [Prod.mk.injEq] at hzz
  obtain ⟨hz, hs, hb⟩ := hzz
  have := run_make (P := Try.prog) w 28 27 i (.slice none 0 0) Try.underlying28 hi hz .i64 .i64 n n (by omega) (Int.le_refl _) (by rw [hb]; omega) (by omega)
  simp only [Int.toNat_natCast, hs, Nat.mul_one] at this
  exact this

/-- The cells of parts, as far as they are asked. -/
def rowF (rs : List Slc) (i : Nat) : Value := slcV (rs.getD i (none, 0, 0))
theorem rowF_set {w : World} {G n k : Nat} {rs : List Slc} {r : Slc} (h : w.rowIs G 27 n (rowF rs)) (hk : rs.length = k) : (w.setCell ⟨G, k, none⟩ (slcV r)).rowIs G 27 n (rowF (rs ++ [r])) := by
  refine (h.set k _).congr fun i hi => ?_
  unfold rowF
  subst hk
  by_cases e : i = rs.length
  · subst e
    simp
  · rw [if_neg e]
    congr 1
    rw [List.getD_eq_getElem?_getD, List.getD_eq_getElem?_getD]
    rcases Nat.lt_or_ge i rs.length with h1 | h1
    · rw [List.getElem?_append_left h1]
    · rw [List.getElem?_eq_none h1, List.getElem?_eq_none (by simp; omega)]

/-- How far Parts has come: what was asked, the flag, the parts so far. -/
structure AskIn (w wr : World) (c : Ck) (A : Option Addr) (n k0 G : Nat) (ok : Bool) (rs : List Slc) : Prop where
  box : wr.heap[w.heap.size]? = some (.cells #[.bool c.1, .int .i64 c.2.1.1, .int .i64 c.2.1.2, .slice A n k0] 26 (0, 0))
  flag : Boxed wr (w.heap.size + 1) 4 (.bool ok)
  row : wr.rowIs G 27 n (rowF rs)
  far : w.heap.size + 1 < G
  below : Below w.heap.size w wr
section
variable {w wr w1 : World} {c : Ck} {A : Option Addr} {n k0 G : Nat} {ok ok' : Bool} {rs : List Slc}
theorem AskIn.at_ (h : AskIn w wr c A n k0 G ok rs) : wr.cell? ⟨w.heap.size, 1, none⟩ = some (.int .i64 c.2.1.1) ∧ wr.cell? ⟨w.heap.size, 2, none⟩ = some (.int .i64 c.2.1.2) ∧ wr.cell? ⟨w.heap.size, 3, none⟩ = some (.slice A n k0) ∧ w.heap.size < wr.heap.size :=
  ⟨by rw [cells_of h.box]; rfl, by rw [cells_of h.box]; rfl, by rw [cells_of h.box]; rfl, (Array.getElem?_eq_some_iff.1 h.box).1⟩
theorem AskIn.asked (h : AskIn w wr c A n k0 G ok rs) (hb : But (fun k => k = w.heap.size + 1) wr w1) (hf : Boxed w1 (w.heap.size + 1) 4 (.bool ok')) : AskIn w w1 c A n k0 G ok' rs :=
  ⟨(hb.block _ h.at_.2.2.2 (by omega)).trans h.box, hf, h.row.of_block (hb.block _ h.row.lt (by have := h.far; omega)), h.far, h.below.trans (hb.below h.below.size (by omega))⟩
theorem AskIn.put {r : Slc} {k : Nat} (h : AskIn w wr c A n k0 G ok rs) (hk : rs.length = k) : AskIn w (wr.setCell ⟨G, k, none⟩ (slcV r)) c A n k0 G ok (rs ++ [r]) := by
  have hf := h.far
  have hb : But (fun j => j = G) wr (wr.setCell ⟨G, k, none⟩ (slcV r)) := But.setCell (F := fun j => j = G) wr (p := ⟨G, k, none⟩) rfl _
  exact ⟨(hb.block _ h.at_.2.2.2 (by omega)).trans h.box, (hb.block _ h.flag.lt (by omega)).trans h.flag, rowF_set h.row hk, hf, h.below.trans (hb.below h.below.size (by omega))⟩
end

set_option maxRecDepth 100000 in
set_option maxHeartbeats 4000000 in
theorem parts_any (st : Bool) (f t : Int) (spans : List Sp) (A1 : Option Addr) (n1 c1 : Nat) (A0 : Option Addr) (n0 c0 : Nat) (base : Txs) (A : Option Addr) (n c : Nat) (rows : List Slc) (sides : List Txs) (w : World) (hn : n ≤ 100000) (hn1 : n1 ≤ maxLen) (hA1 : Spans w w.heap.size A1 n1 spans) (hA0 : TxR w w.heap.size (A0, n0, c0) base) (hA : RowsT w w.heap.size A n rows sides) :
    Calls Try.prog 10 #[.agg #[.bool st, .int .i64 f, .int .i64 t, .slice A1 n1 c1], .slice A0 n0 c0, .slice A n c] w fun e w' => PartsOut w w' e (partErr (st, (f, t), spans) base sides) (partBase (st, (f, t), spans) base sides) (partSides (st, (f, t), spans) base sides) := by
  have hl := hA.len
  have hl1 := hA1.len
  have hl0 : base.length = n0 := hA0.2.2.len
  unfold maxLen at hn1
  by_cases hnn : n1 = n
  rotate_left
  · have he : partErr (st, (f, t), spans) base sides = 1 := err_arg (by show spans.length ≠ _; omega)
    have hb : partBase (st, (f, t), spans) base sides = [] := by unfold partBase; rw [he]; rfl
    have hs : partSides (st, (f, t), spans) base sides = [] := by unfold partSides; rw [he]; rfl
    rw [he, hb, hs]
    have hne : ((n1 : Int) != (n : Int)) = true := by simp; omega
    clear hA0 hA hA1 he hb hs
    go_enter Try.func10, Try.ntmps10
    go_wp2
    go_ret3
    exact PartsOut.nothing 1 ((Below.refl _ _).alloc (Nat.le_refl _) _)
  subst hnn
  have hne : ((n1 : Int) != (n1 : Int)) = false := by simp
  have hAh := Lib.hid hA
  have hA0h := Lib.hid hA0
  have hA1h := Lib.hid hA1
  have hlh := Lib.hid hl
  have hl1h := Lib.hid hl1
  have hl0h := Lib.hid hl0
  have hmk := make_rows n1 (by omega)
  obtain ⟨W0, hW0⟩ : ∃ W0, W0 = ((w.alloc (.cells #[.bool st, .int .i64 f, .int .i64 t, .slice A1 n1 c1] 26)).alloc (.cells #[.bool true] 4)) := ⟨_, rfl⟩
  have k0 : W0.heap[w.heap.size]? = some (.cells #[.bool st, .int .i64 f, .int .i64 t, .slice A1 n1 c1] 26 (0, 0)) := by
    rw [hW0]
    rw [push_at, if_neg (by simp), push_at, if_pos rfl]
  have k1 : Boxed W0 (w.heap.size + 1) 4 (.bool true) := by
    unfold Boxed
    rw [hW0, push_at, push_size, if_pos rfl]
  have k2 : Below w.heap.size w W0 := by
    rw [hW0]
    exact ((Below.refl _ w).alloc (Nat.le_refl _) _).alloc (by simp) _
  have k3 : W0.heap.size = w.heap.size + 2 := by rw [hW0]; simp
  have hask : Hid (∀ (W : World) (ok : Bool) (A2 : Option Addr) (n2 c2 : Nat) (ss : Txs) (a b : Int), Below w.heap.size w W → TxR w w.heap.size (A2, n2, c2) ss → Boxed W (w.heap.size + 1) 4 (.bool ok) →
      Calls Try.prog 19 #[.slice A2 n2 c2, .agg #[.int .i64 a, .int .i64 b], .pointer (some ⟨w.heap.size + 1, 0, none⟩)] W fun e w' => ∃ A' m, e = .returned (.slice A' m m) ∧ TxR w w.heap.size (A', m, m) (askT ss (a, b)) ∧ Boxed w' (w.heap.size + 1) 4 (.bool (ok && inB (a, b) n2)) ∧ But (fun k => k = w.heap.size + 1) W w') :=
    Lib.hid fun W ok A2 n2 c2 ss a b hW hT hB => (ask_any (w.heap.size + 1) ok A2 n2 c2 w.heap.size ss a b W (hT.below hW) hW.size (by omega) hB).mono fun e w' ⟨A', m, h1, h2, h3, h4⟩ => ⟨A', m, h1, h2.keep fun p hp => (hW.cell (p := p) hp).symm, h3, h4⟩
  have d1 : W0.cell? ⟨w.heap.size, 1, none⟩ = some (.int .i64 f) := by rw [cells_of k0]; rfl
  have d2 : W0.cell? ⟨w.heap.size, 2, none⟩ = some (.int .i64 t) := by rw [cells_of k0]; rfl
  have hQ0 := Lib.hid (hask.out W0 true A0 n0 c0 base f t k2 hA0h.out k1)
  have k0h := Lib.hid k0
  have k2h := Lib.hid k2
  have k3h := Lib.hid k3
  have hW0h := Lib.hid hW0
  obtain ⟨ok0, hok0⟩ : ∃ ok0, inB (f, t) n0 = ok0 := ⟨_, rfl⟩
  rw [hok0, Bool.true_and] at hQ0
  have hok0h := Lib.hid hok0
  have hst : Hid (∀ (w1 : World), Boxed w1 (w.heap.size + 1) 4 (.bool ok0) → But (fun k => k = w.heap.size + 1) W0 w1 → AskIn w (w1.alloc (.cells (madeCells #[.slice none 0 0] n1) 27)) (st, (f, t), spans) A1 n1 c1 w1.heap.size ok0 []) :=
    Lib.hid fun w1 h1 h2 => by
      have h3 : Below w.heap.size w w1 := k2h.out.trans (h2.below k2h.out.size (by omega))
      have h4 := h2.size
      have h5 := k3h.out
      refine ⟨(Below.heap_alloc w1 _ _ (by omega)).trans ((h2.block _ (by omega) (by omega)).trans k0h.out), (Below.heap_alloc w1 _ _ h1.lt).trans h1, (World.rowIs_made w1 _ _ _).congr fun i _ => rfl, by omega, h3.alloc h3.size _⟩
  clear hA hA0 hA1 hok0 hl hl1 hl0 k0 k1 k2 k3 d1 d2 hW0
  go_enter Try.func10, Try.ntmps10
  go_upto_region 5 with fail
  rw [← hW0h.out]
  have d1 : W0.cell? ⟨w.heap.size, 1, none⟩ = some (.int .i64 f) := by rw [cells_of k0h.out]; rfl
  have d2 : W0.cell? ⟨w.heap.size, 2, none⟩ = some (.int .i64 t) := by rw [cells_of k0h.out]; rfl
  go_wp2_with (go_at_call 19; refine hQ0.out.mono ?_; rintro e w1 ⟨Ab, mb, rfl, hTb, hf1, hb1⟩; have hTbh := Lib.hid hTb; have hst1 := Lib.hid (hst.out w1 hf1 hb1); clear hTb hf1 hb1 d1 d2)
  obtain ⟨G, hG⟩ : ∃ G, w1.heap.size = G := ⟨_, rfl⟩
  rw [hG] at hst1 ⊢
  clear hG
  go_loopw [13, 14, 32] (fun _ _ s32 wr => ∃ (k : Nat) (ok : Bool) (rs : List Slc), k ≤ n1 ∧ rs.length = k ∧ s32 = .int .i64 k ∧ Hid (ok = true ↔ ok0 = true ∧ insB spans sides k) ∧ Hid (∀ (i : Nat) (r : Slc) (s : Sp) (l : Txs), rs[i]? = some r → spans[i]? = some s → sides[i]? = some l → TxR w w.heap.size r (askT l s)) ∧ Hid (AskIn w wr (st, (f, t), spans) A1 n1 c1 G ok rs)) (fun _ _ s32 _ => n1 - (intOf s32).toNat)
  case atStart => exact ⟨0, ok0, [], Nat.zero_le _, rfl, rfl, Lib.hid ⟨fun h => ⟨h, fun i s l hi => absurd hi (by omega)⟩, fun h => h.1⟩, Lib.hid (fun i r s l h => by simp at h), hst1⟩
  case round =>
    obtain ⟨k, ok, rs, hkn, hrl, rfl, hok, hRs, hP⟩ := hrel
    obtain ⟨wo, rfl⟩ : ∃ wo : World, wo = wr := ⟨_, rfl⟩
    clear hst1 hst hQ0
    obtain ⟨d1, d2, d3, hwl⟩ := hP.out.at_
    dsimp only at d1 d2
    by_cases hlt : k < n1
    · obtain ⟨b, o, A2, n2, c2, l, rfl, hb, hll, hrow, hc, hnc, hcm, hSt⟩ := (hAh.out.below hP.out.below).at_ (k := k) hlt
      obtain ⟨b', o', ⟨s1, s2⟩, rfl, hb', hs, e1, e2⟩ := (hA1h.out.keep (w' := wo) (fun p hp => hP.out.below.cell hp)).at_ (k := k) hlt
      dsimp only at e1 e2
      have i1 : (0 : Int) ≤ (k : Int) := by omega
      have i2 : (k : Int) < (n1 : Int) := by omega
      have hC := Lib.hid (hask.out wo ok A2 n2 c2 l s1 s2 hP.out.below (hAh.out.2.2 k _ _ hrow hll) hP.out.flag)
      have hsh := Lib.hid (And.intro hs hll)
      have hl2 := Lib.hid (hSt.len)
      obtain ⟨bb, hbb⟩ : ∃ bb, inB (s1, s2) n2 = bb := ⟨_, rfl⟩
      rw [hbb] at hC
      have hbbh := Lib.hid hbb
      have hrlh := Lib.hid hrl
      clear hs hll hrow hSt hbb hrl
      go_wp2_with (go_at_call 19; refine hC.out.mono ?_; rintro e w2 ⟨A3, m3, rfl, hT3, hf3, hb3⟩; have hP2 := Lib.hid (hP.out.asked hb3 hf3); have z1 := hP2.out.row.cell hlt; have z2 := hP2.out.row.frozen k; have hT3h := Lib.hid hT3; clear hT3 hf3 hb3)
      go_roundw
      case rel =>
        refine ⟨k + 1, ok && bb, rs ++ [(A3, m3, m3)], by omega, by simp [hrlh.out], by go_num, Lib.hid ?_, Lib.hid ?_, Lib.hid (hP2.out.put (r := (A3, m3, m3)) hrlh.out)⟩
        · rw [insB_step hsh.out.1 hsh.out.2, hl2.out, hbbh.out, Bool.and_eq_true, hok.out]
          exact and_assoc
        · intro i r s l' h1 h2 h3
          rcases Nat.lt_or_ge i k with hik | hik
          · rw [List.getElem?_append_left (by rw [hrlh.out]; exact hik)] at h1
            exact hRs.out i r s l' h1 h2 h3
          · rw [List.getElem?_append_right (by rw [hrlh.out]; exact hik), hrlh.out] at h1
            obtain rfl : i = k := by
              have := (List.getElem?_eq_some_iff.1 h1).1
              simp at this
              omega
            simp at h1
            rw [hsh.out.1] at h2
            rw [hsh.out.2] at h3
            injection h2 with h2
            injection h3 with h3
            subst h1
            subst h2
            subst h3
            exact hT3h.out
      case measure => simp [intOf]; omega
    · obtain rfl : k = n1 := by omega
      have z1 := hP.out.flag.cell
      have hok1 := hok.out
      cases ok
      · have hno : ¬ (inB (f, t) base.length = true ∧ insB spans sides sides.length) := by
          rw [hl0h.out, hok0h.out, hlh.out]
          intro h
          have := hok1.2 h
          cases this
        have he := err_range (c := (st, (f, t), spans)) (base := base) (sides := sides) (by show spans.length = _; rw [hlh.out, hl1h.out]) hno
        have hb : partBase (st, (f, t), spans) base sides = [] := by unfold partBase; rw [he]; rfl
        have hs : partSides (st, (f, t), spans) base sides = [] := by unfold partSides; rw [he]; rfl
        have heh := Lib.hid (And.intro he (And.intro hb hs))
        clear hno he hb hs hok1
        go_wp2
        go_ret3
        rw [heh.out.1, heh.out.2.1, heh.out.2.2]
        exact PartsOut.nothing 3 hP.out.below
      · have hyes := hok1.1 rfl
        have hin0 : inB (f, t) base.length = true := by rw [hl0h.out, hok0h.out]; exact hyes.1
        have he := err_none (c := (st, (f, t), spans)) (base := base) (sides := sides) (by show spans.length = _; rw [hlh.out, hl1h.out]) ⟨hin0, by rw [hlh.out]; exact hyes.2⟩
        have hb : partBase (st, (f, t), spans) base sides = cutT base (f, t) := by unfold partBase; rw [he]; rfl
        have hs : partSides (st, (f, t), spans) base sides = cutsT spans sides := by unfold partSides; rw [he]; rfl
        have heh := Lib.hid (And.intro he (And.intro hb hs))
        have hask0 : askT base (f, t) = cutT base (f, t) := by unfold askT; rw [if_pos hin0]
        have hTb2 : TxR wo wo.heap.size (Ab, mb, mb) (cutT base (f, t)) := by
          rw [← hask0]
          exact (hTbh.out.below hP.out.below).more hP.out.below.size
        have hRows : RowsT wo wo.heap.size (some ⟨G, 0, none⟩) k rs (cutsT spans sides) := by
          refine ⟨reads_of_row hP.out.row _ (by rw [List.length_map, hrl]) (fun i u hu => ?_), ?_, fun i r ss h1 h2 => ?_⟩
          · rw [List.getElem?_map] at hu
            unfold rowF
            rw [List.getD_eq_getElem?_getD]
            cases h : rs[i]? with
            | none => rw [h] at hu; cases hu
            | some r => rw [h] at hu; simpa using hu
          · unfold cutsT
            rw [List.length_zipWith, hl1h.out, hlh.out, hrl]
            simp
          · unfold cutsT at h2
            rw [List.getElem?_zipWith] at h2
            cases h3 : spans[i]? with
            | none => rw [h3] at h2; simp at h2
            | some s =>
              cases h4 : sides[i]? with
              | none => rw [h3, h4] at h2; simp at h2
              | some l =>
                rw [h3, h4] at h2
                simp at h2
                subst h2
                have h5 := hRs.out i r s l h1 h3 h4
                have h6 : askT l s = cutT l s := by
                  unfold askT
                  rw [if_pos (hyes.2 i s l (by have := (List.getElem?_eq_some_iff.1 h1).1; omega) h3 h4)]
                rw [h6] at h5
                exact (h5.below hP.out.below).more hP.out.below.size
        have hTb3 := Lib.hid hTb2
        have hRowsh := Lib.hid hRows
        clear he hb hs hok1 hyes hin0 hTb2 hRows hask0
        go_wp2
        go_ret3
        rw [heh.out.1, heh.out.2.1, heh.out.2.2]
        exact ⟨Ab, mb, mb, some ⟨G, 0, none⟩, _, _, rs, rfl, hTb3.out, Nat.le_refl _, by unfold maxLen; omega, hRowsh.out, hP.out.below⟩
end Go.Proofs.Ytiokgfcndemadaa
