/- Proved here: texts joined: ContGo, PkFns, UnPure, LinOpen, PkUn. -/
import Derived.Test.YtoephlkfejcadaaGreatBf04
import Derived.Test.YtoephlkfejcadaaGreatBf08
import Derived.Test.YtoephlkfejcadaaGreatBf09
import Derived.Test.YtoephlkfejcadaaGreatBf16
import Derived.Test.YtoephlkfejcadaaGreatBf27
import Derived.Deep.DeepCutAuto
import Derived.Outline
import Derived.RangeFuncBox
import Derived.Laws.EntriesVeiled
/- Proved here: the contract of the landed content.Parts, as the laws of layer 6 ask it. -/
namespace Go.Proofs.YtoephlkfejcadaaGreat
open Go.RowKit
set_option linter.unusedVariables false

/-- How far Parts has come: what was asked, the flag, the parts so far. -/
structure AskIn (w wr : World) (c : Ck) (A : Option Addr) (n k0 G : Nat) (ok : Bool) (rs : List Slc) : Prop where
  box : wr.heap[w.heap.size]? = some (.cells #[.bool c.1, .int .i64 c.2.1.1, .int .i64 c.2.1.2, .slice A n k0] 91 (0, 0))
  flag : Boxed wr (w.heap.size + 1) 4 (.bool ok)
  row : wr.rowIs G 22 n (rowF rs)
  far : w.heap.size + 1 < G
  below : Below w.heap.size w wr
section
variable {w wr w1 : World} {c : Ck} {A : Option Addr} {n k0 G : Nat} {ok ok' : Bool} {rs : List Slc}
theorem AskIn.at_ (h : AskIn w wr c A n k0 G ok rs) : wr.cell? ⟨w.heap.size, 1, none⟩ = some (.int .i64 c.2.1.1) ∧ wr.cell? ⟨w.heap.size, 2, none⟩ = some (.int .i64 c.2.1.2) ∧ wr.cell? ⟨w.heap.size, 3, none⟩ = some (.slice A n k0) ∧ w.heap.size < wr.heap.size :=
  ⟨by rw [cells_of h.box]; rfl, by rw [cells_of h.box]; rfl, by rw [cells_of h.box]; rfl, (Array.getElem?_eq_some_iff.1 h.box).1⟩
theorem AskIn.asked (h : AskIn w wr c A n k0 G ok rs) (hb : But (fun k => k = w.heap.size + 1) wr w1) (hf : Boxed w1 (w.heap.size + 1) 4 (.bool ok')) : AskIn w w1 c A n k0 G ok' rs :=
  ⟨(hb.block _ h.at_.2.2.2 (by omega)).trans h.box, hf, h.row.of_block (hb.block _ h.row.lt (by have := h.far; omega)), h.far, h.below.trans (hb.below h.below.size (by omega))⟩
theorem AskIn.put {r : Slc} {k : Nat} (h : AskIn w wr c A n k0 G ok rs) (hk : rs.length = k) : AskIn w (wr.setCell ⟨G, k, none⟩ (slcV r)) c A n k0 G ok (rs ++ [r]) := by
  have hf := h.far
  have hb : But (fun j => j = G) wr (wr.setCell ⟨G, k, none⟩ (slcV r)) := But.setCell (F := fun j => j = G) wr (p := ⟨G, k, none⟩) rfl _
  exact ⟨(hb.block _ h.at_.2.2.2 (by omega)).trans h.box, (hb.block _ h.flag.lt (by omega)).trans h.flag, rowF_set h.row hk, hf, h.below.trans (hb.below h.below.size (by omega))⟩
end

set_option maxRecDepth 100000 in
set_option maxHeartbeats 4000000 in
theorem parts_anyB (B : Nat) (st : Bool) (f t : Int) (spans : List Sp) (A1 : Option Addr) (n1 c1 : Nat) (A0 : Option Addr) (n0 c0 : Nat) (base : Txs) (A : Option Addr) (n c : Nat) (rows : List Slc) (sides : List Txs) (w : World) (hn : n ≤ 100000) (hn1 : n1 ≤ maxLen) (hA1 : Spans w w.heap.size A1 n1 spans) (hB : B ≤ w.heap.size) (hA0 : TxR w B (A0, n0, c0) base) (hA : RowsT w w.heap.size A n rows sides) :
    Calls Tryz.prog 88 #[.agg #[.bool st, .int .i64 f, .int .i64 t, .slice A1 n1 c1], .slice A0 n0 c0, .slice A n c] w fun e w' => PartsOutB B w w' e (partErr (st, (f, t), spans) base sides) (partBase (st, (f, t), spans) base sides) (partSides (st, (f, t), spans) base sides) := by
  have hl := hA.len
  have hl1 := hA1.len
  have hl0 : base.length = n0 := hA0.2.2.len
  unfold maxLen at hn1
  by_cases hnn : n1 = n
  rotate_left
  · have he : partErr (st, (f, t), spans) base sides = 1 := err_arg (by show spans.length ≠ _; omega)
    have hb : partBase (st, (f, t), spans) base sides = [] := by unfold partBase; rw [he]; rfl
    have hs : partSides (st, (f, t), spans) base sides = [] := by unfold partSides; rw [he]; rfl
    rw [he, hb, hs]
    have hne : ((n1 : Int) != (n : Int)) = true := by simp; omega
    clear hA0 hA hA1 he hb hs
    go_enter Tryz.func88, Tryz.ntmps88
    go_wp2
    go_ret3
    exact PartsOutB.nothing 1 ((Below.refl _ _).alloc (Nat.le_refl _) _)
  subst hnn
  have hne : ((n1 : Int) != (n1 : Int)) = false := by simp
  have hAh := Lib.hid hA
  have hA0h := Lib.hid hA0
  have hA1h := Lib.hid hA1
  have hlh := Lib.hid hl
  have hl1h := Lib.hid hl1
  have hl0h := Lib.hid hl0
  have hmk := make_rows n1 (by omega)
  obtain ⟨W0, hW0⟩ : ∃ W0, W0 = ((w.alloc (.cells #[.bool st, .int .i64 f, .int .i64 t, .slice A1 n1 c1] 91)).alloc (.cells #[.bool true] 4)) := ⟨_, rfl⟩
  have k0 : W0.heap[w.heap.size]? = some (.cells #[.bool st, .int .i64 f, .int .i64 t, .slice A1 n1 c1] 91 (0, 0)) := by
    rw [hW0]
    rw [push_at, if_neg (by simp), push_at, if_pos rfl]
  have k1 : Boxed W0 (w.heap.size + 1) 4 (.bool true) := by
    unfold Boxed
    rw [hW0, push_at, push_size, if_pos rfl]
  have k2 : Below w.heap.size w W0 := by
    rw [hW0]
    exact ((Below.refl _ w).alloc (Nat.le_refl _) _).alloc (by simp) _
  have k3 : W0.heap.size = w.heap.size + 2 := by rw [hW0]; simp
  have hask : Hid (∀ (W : World) (ok : Bool) (A2 : Option Addr) (n2 c2 : Nat) (ss : Txs) (a b : Int), Below w.heap.size w W → TxR w w.heap.size (A2, n2, c2) ss → Boxed W (w.heap.size + 1) 4 (.bool ok) →
      Calls Tryz.prog 104 #[.slice A2 n2 c2, .agg #[.int .i64 a, .int .i64 b], .pointer (some ⟨w.heap.size + 1, 0, none⟩)] W fun e w' => ∃ A' m, e = .returned (.slice A' m m) ∧ TxR w w.heap.size (A', m, m) (askT ss (a, b)) ∧ Boxed w' (w.heap.size + 1) 4 (.bool (ok && inB (a, b) n2)) ∧ But (fun k => k = w.heap.size + 1) W w') :=
    Lib.hid fun W ok A2 n2 c2 ss a b hW hT hB => (ask_any (w.heap.size + 1) ok A2 n2 c2 w.heap.size ss a b W (hT.below hW) hW.size (by omega) hB).mono fun e w' ⟨A', m, h1, h2, h3, h4⟩ => ⟨A', m, h1, h2.keep fun p hp => (hW.cell (p := p) hp).symm, h3, h4⟩
  have d1 : W0.cell? ⟨w.heap.size, 1, none⟩ = some (.int .i64 f) := by rw [cells_of k0]; rfl
  have d2 : W0.cell? ⟨w.heap.size, 2, none⟩ = some (.int .i64 t) := by rw [cells_of k0]; rfl
  have hBh := Lib.hid hB
  have hQ0 : Hid (Calls Tryz.prog 104 #[.slice A0 n0 c0, .agg #[.int .i64 f, .int .i64 t], .pointer (some ⟨w.heap.size + 1, 0, none⟩)] W0 fun e w' => ∃ A' m, e = .returned (.slice A' m m) ∧ TxR w B (A', m, m) (askT base (f, t)) ∧ Boxed w' (w.heap.size + 1) 4 (.bool (true && inB (f, t) n0)) ∧ But (fun k => k = w.heap.size + 1) W0 w') :=
    Lib.hid ((ask_any (w.heap.size + 1) true A0 n0 c0 B base f t W0 (hA0.below (k2.mono hB)) (Nat.le_trans hB k2.size) (by omega) k1).mono fun e w' ⟨A', m, h1, h2, h3, h4⟩ => ⟨A', m, h1, h2.keep fun p hp => (k2.cell (p := p) (Nat.lt_of_lt_of_le hp hB)).symm, h3, h4⟩)
  have k0h := Lib.hid k0
  have k2h := Lib.hid k2
  have k3h := Lib.hid k3
  have hW0h := Lib.hid hW0
  obtain ⟨ok0, hok0⟩ : ∃ ok0, inB (f, t) n0 = ok0 := ⟨_, rfl⟩
  rw [hok0, Bool.true_and] at hQ0
  have hok0h := Lib.hid hok0
  have hst : Hid (∀ (w1 : World), Boxed w1 (w.heap.size + 1) 4 (.bool ok0) → But (fun k => k = w.heap.size + 1) W0 w1 → AskIn w (w1.alloc (.cells (madeCells #[.slice none 0 0] n1) 22)) (st, (f, t), spans) A1 n1 c1 w1.heap.size ok0 []) :=
    Lib.hid fun w1 h1 h2 => by
      have h3 : Below w.heap.size w w1 := k2h.out.trans (h2.below k2h.out.size (by omega))
      have h4 := h2.size
      have h5 := k3h.out
      refine ⟨(Below.heap_alloc w1 _ _ (by omega)).trans ((h2.block _ (by omega) (by omega)).trans k0h.out), (Below.heap_alloc w1 _ _ h1.lt).trans h1, (World.rowIs_made w1 _ _ _).congr fun i _ => rfl, by omega, h3.alloc h3.size _⟩
  clear hA hA0 hA1 hok0 hB hl hl1 hl0 k0 k1 k2 k3 d1 d2 hW0
  go_enter Tryz.func88, Tryz.ntmps88
  go_upto_region 5 with fail
  rw [← hW0h.out]
  have d1 : W0.cell? ⟨w.heap.size, 1, none⟩ = some (.int .i64 f) := by rw [cells_of k0h.out]; rfl
  have d2 : W0.cell? ⟨w.heap.size, 2, none⟩ = some (.int .i64 t) := by rw [cells_of k0h.out]; rfl
  go_wp2_with (go_at_call 104; refine hQ0.out.mono ?_; rintro e w1 ⟨Ab, mb, rfl, hTb, hf1, hb1⟩; have hTbh := Lib.hid hTb; have hst1 := Lib.hid (hst.out w1 hf1 hb1); clear hTb hf1 hb1 d1 d2)
  obtain ⟨G, hG⟩ : ∃ G, w1.heap.size = G := ⟨_, rfl⟩
  rw [hG] at hst1 ⊢
  clear hG
  go_loopw [13, 14, 32] (fun _ _ s32 wr => ∃ (k : Nat) (ok : Bool) (rs : List Slc), k ≤ n1 ∧ rs.length = k ∧ s32 = .int .i64 k ∧ Hid (ok = true ↔ ok0 = true ∧ insB spans sides k) ∧ Hid (∀ (i : Nat) (r : Slc) (s : Sp) (l : Txs), rs[i]? = some r → spans[i]? = some s → sides[i]? = some l → TxR w w.heap.size r (askT l s)) ∧ Hid (AskIn w wr (st, (f, t), spans) A1 n1 c1 G ok rs)) (fun _ _ s32 _ => n1 - (intOf s32).toNat)
  case atStart => exact ⟨0, ok0, [], Nat.zero_le _, rfl, rfl, Lib.hid ⟨fun h => ⟨h, fun i s l hi => absurd hi (by omega)⟩, fun h => h.1⟩, Lib.hid (fun i r s l h => by simp at h), hst1⟩
  case round =>
    obtain ⟨k, ok, rs, hkn, hrl, rfl, hok, hRs, hP⟩ := hrel
    obtain ⟨wo, rfl⟩ : ∃ wo : World, wo = wr := ⟨_, rfl⟩
    clear hst1 hst hQ0
    obtain ⟨d1, d2, d3, hwl⟩ := hP.out.at_
    dsimp only at d1 d2
    by_cases hlt : k < n1
    · obtain ⟨b, o, A2, n2, c2, l, rfl, hb, hll, hrow, hc, hnc, hcm, hSt⟩ := (hAh.out.below hP.out.below).at_ (k := k) hlt
      obtain ⟨b', o', ⟨s1, s2⟩, rfl, hb', hs, e1, e2⟩ := (hA1h.out.keep (w' := wo) (fun p hp => hP.out.below.cell hp)).at_ (k := k) hlt
      dsimp only at e1 e2
      have i1 : (0 : Int) ≤ (k : Int) := by omega
      have i2 : (k : Int) < (n1 : Int) := by omega
      have hC := Lib.hid (hask.out wo ok A2 n2 c2 l s1 s2 hP.out.below (hAh.out.2.2 k _ _ hrow hll) hP.out.flag)
      have hsh := Lib.hid (And.intro hs hll)
      have hl2 := Lib.hid (hSt.len)
      obtain ⟨bb, hbb⟩ : ∃ bb, inB (s1, s2) n2 = bb := ⟨_, rfl⟩
      rw [hbb] at hC
      have hbbh := Lib.hid hbb
      have hrlh := Lib.hid hrl
      clear hs hll hrow hSt hbb hrl
      go_wp2_with (go_at_call 104; refine hC.out.mono ?_; rintro e w2 ⟨A3, m3, rfl, hT3, hf3, hb3⟩; have hP2 := Lib.hid (hP.out.asked hb3 hf3); have z1 := hP2.out.row.cell hlt; have z2 := hP2.out.row.frozen k; have hT3h := Lib.hid hT3; clear hT3 hf3 hb3)
      go_roundw
      case rel =>
        refine ⟨k + 1, ok && bb, rs ++ [(A3, m3, m3)], by omega, by simp [hrlh.out], by go_num, Lib.hid ?_, Lib.hid ?_, Lib.hid (hP2.out.put (r := (A3, m3, m3)) hrlh.out)⟩
        · rw [insB_step hsh.out.1 hsh.out.2, hl2.out, hbbh.out, Bool.and_eq_true, hok.out]
          exact and_assoc
        · intro i r s l' h1 h2 h3
          rcases Nat.lt_or_ge i k with hik | hik
          · rw [List.getElem?_append_left (by rw [hrlh.out]; exact hik)] at h1
            exact hRs.out i r s l' h1 h2 h3
          · rw [List.getElem?_append_right (by rw [hrlh.out]; exact hik), hrlh.out] at h1
            obtain rfl : i = k := by
              have := (List.getElem?_eq_some_iff.1 h1).1
              simp at this
              omega
            simp at h1
            rw [hsh.out.1] at h2
            rw [hsh.out.2] at h3
            injection h2 with h2
            injection h3 with h3
            subst h1
            subst h2
            subst h3
            exact hT3h.out
      case measure => simp [intOf]; omega
    · obtain rfl : k = n1 := by omega
      have z1 := hP.out.flag.cell
      have hok1 := hok.out
      cases ok
      · have hno : ¬ (inB (f, t) base.length = true ∧ insB spans sides sides.length) := by
          rw [hl0h.out, hok0h.out, hlh.out]
          intro h
          have := hok1.2 h
          cases this
        have he := err_range (c := (st, (f, t), spans)) (base := base) (sides := sides) (by show spans.length = _; rw [hlh.out, hl1h.out]) hno
        have hb : partBase (st, (f, t), spans) base sides = [] := by unfold partBase; rw [he]; rfl
        have hs : partSides (st, (f, t), spans) base sides = [] := by unfold partSides; rw [he]; rfl
        have heh := Lib.hid (And.intro he (And.intro hb hs))
        clear hno he hb hs hok1
        go_wp2
        go_ret3
        rw [heh.out.1, heh.out.2.1, heh.out.2.2]
        exact PartsOutB.nothing 3 hP.out.below
      · have hyes := hok1.1 rfl
        have hin0 : inB (f, t) base.length = true := by rw [hl0h.out, hok0h.out]; exact hyes.1
        have he := err_none (c := (st, (f, t), spans)) (base := base) (sides := sides) (by show spans.length = _; rw [hlh.out, hl1h.out]) ⟨hin0, by rw [hlh.out]; exact hyes.2⟩
        have hb : partBase (st, (f, t), spans) base sides = cutT base (f, t) := by unfold partBase; rw [he]; rfl
        have hs : partSides (st, (f, t), spans) base sides = cutsT spans sides := by unfold partSides; rw [he]; rfl
        have heh := Lib.hid (And.intro he (And.intro hb hs))
        have hask0 : askT base (f, t) = cutT base (f, t) := by unfold askT; rw [if_pos hin0]
        have hTb2 : TxR wo B (Ab, mb, mb) (cutT base (f, t)) := by
          rw [← hask0]
          exact hTbh.out.below (hP.out.below.mono hBh.out)
        have hRows : RowsT wo wo.heap.size (some ⟨G, 0, none⟩) k rs (cutsT spans sides) := by
          refine ⟨reads_of_row hP.out.row _ (by rw [List.length_map, hrl]) (fun i u hu => ?_), ?_, fun i r ss h1 h2 => ?_⟩
          · rw [List.getElem?_map] at hu
            unfold rowF
            rw [List.getD_eq_getElem?_getD]
            cases h : rs[i]? with
            | none => rw [h] at hu; cases hu
            | some r => rw [h] at hu; simpa using hu
          · unfold cutsT
            rw [List.length_zipWith, hl1h.out, hlh.out, hrl]
            simp
          · unfold cutsT at h2
            rw [List.getElem?_zipWith] at h2
            cases h3 : spans[i]? with
            | none => rw [h3] at h2; simp at h2
            | some s =>
              cases h4 : sides[i]? with
              | none => rw [h3, h4] at h2; simp at h2
              | some l =>
                rw [h3, h4] at h2
                simp at h2
                subst h2
                have h5 := hRs.out i r s l h1 h3 h4
                have h6 : askT l s = cutT l s := by
                  unfold askT
                  rw [if_pos (hyes.2 i s l (by have := (List.getElem?_eq_some_iff.1 h1).1; omega) h3 h4)]
                rw [h6] at h5
                exact (h5.below hP.out.below).more hP.out.below.size
        have hTb3 := Lib.hid hTb2
        have hRowsh := Lib.hid hRows
        clear he hb hs hok1 hyes hin0 hTb2 hRows hask0
        go_wp2
        go_ret3
        rw [heh.out.1, heh.out.2.1, heh.out.2.2]
        exact ⟨Ab, mb, mb, some ⟨G, 0, none⟩, _, _, rs, rfl, hTb3.out, Nat.le_refl _, by unfold maxLen; omega, hRowsh.out, hP.out.below⟩

theorem parts_any (st : Bool) (f t : Int) (spans : List Sp) (A1 : Option Addr) (n1 c1 : Nat) (A0 : Option Addr) (n0 c0 : Nat) (base : Txs) (A : Option Addr) (n c : Nat) (rows : List Slc) (sides : List Txs) (w : World) (hn : n ≤ 100000) (hn1 : n1 ≤ maxLen) (hA1 : Spans w w.heap.size A1 n1 spans) (hA0 : TxR w w.heap.size (A0, n0, c0) base) (hA : RowsT w w.heap.size A n rows sides) :
    Calls Tryz.prog 88 #[.agg #[.bool st, .int .i64 f, .int .i64 t, .slice A1 n1 c1], .slice A0 n0 c0, .slice A n c] w fun e w' => PartsOut w w' e (partErr (st, (f, t), spans) base sides) (partBase (st, (f, t), spans) base sides) (partSides (st, (f, t), spans) base sides) :=
  (parts_anyB w.heap.size st f t spans A1 n1 c1 A0 n0 c0 base A n c rows sides w hn hn1 hA1 (Nat.le_refl _) hA0 hA).mono fun e w' h => h.out (Nat.le_refl _)
end Go.Proofs.YtoephlkfejcadaaGreat
/- Proved here: contracts of what the landed package pick calls of slices, and of its small functions: Clone, text, sideOf. -/
namespace Go.Proofs.YtoephlkfejcadaaGreat
open Go.RowKit
set_option linter.unusedVariables false

theorem ownsRow_low {w : World} {base base' : Nat} {e : TypeId} {size : Nat} {v : Value} {n : Nat} {xs : List Value} (h : w.ownsRow base e size v n xs) (hb : base' ≤ base) : w.ownsRow base' e size v n xs := by
  refine ⟨h.1, ?_⟩
  rcases h.2 with h | ⟨g, cap, cur, hv, h1, r⟩
  · exact .inl h
  · exact .inr ⟨g, cap, cur, hv, Nat.le_trans hb h1, r⟩

/-- Texts of the call's own, told. -/
def OwnOut (w w' : World) (e : Ending) (xs : Txs) : Prop := ∃ v, e = .returned v ∧ TxO w w' v xs

set_option maxHeartbeats 800000 in
theorem cloneT_any (A : Option Addr) (n c B : Nat) (ss : Txs) (w : World) (hn : n ≤ 1000000000) (hB : B ≤ w.heap.size) (hA : Strs w B A n ss) :
    Calls Tryz.prog 90 #[.slice A n c] w fun e w' => OwnOut w w' e ss := by
  have hl := hA.len
  obtain ⟨i0, hi, hzz⟩ := Option.map_eq_some_iff.1 infoStr
  simp only [Prod.mk.injEq] at hzz
  obtain ⟨hz0, hz1, hz2⟩ := hzz
  have hw0 : (w.alloc (.cells #[] 9)).ownsRow w.heap.size 9 1 (.slice (some ⟨w.heap.size, 0, none⟩) 0 0) 0 [] := own_empty w w.heap.size _ (Nat.le_refl _)
  have hB0 : Below w.heap.size w (w.alloc (.cells #[] 9)) := (Below.refl _ _).alloc (Nat.le_refl _) _
  have hm : Hid (0 + n ≤ maxLen ∧ (0 + n) * 16 ≤ 140737488355328) := Lib.hid ⟨by unfold maxLen; omega, by omega⟩
  cases A with
  | none =>
    have h0 : n = 0 := by
      rcases Nat.eq_zero_or_pos n with h0 | h0
      · exact h0
      · obtain ⟨_, _, h, _⟩ := hA.2 h0
        cases h
    subst h0
    obtain rfl : ss = [] := List.eq_nil_of_length_eq_zero hl
    have hq : ∀ W : World, (binOp .eql 22 (.slice none 0 c) (.slice none 0 0)).run Tryz.prog W = .ok (.bool true) W := fun W => Lib.run_eql_slice_nil W _ _ _ _ _ _ _ Tryz.underlying22
    go_enter Tryz.func90, Tryz.ntmps90
    go_wp2
    go_ret
    exact ⟨_, rfl, World.ownsRow_nil _ _ _ _, Below.refl _ _⟩
  | some p =>
    have hA0 := Lib.hid ((hA.more hB).below hB0)
    have hlh := Lib.hid hl
    clear hA hl
    have hq : ∀ W : World, (binOp .eql 22 (.slice (some p) n c) (.slice none 0 0)).run Tryz.prog W = .ok (.bool false) W := fun W => Lib.run_eql_slice_nil W _ _ _ _ _ _ _ Tryz.underlying22
    go_enter Tryz.func90, Tryz.ntmps90
    go_wp2_with (at_builtin; refine wpList_append_reads _ rfl _ _ 22 rfl w.heap.size 9 i0 (.string ByteArray.empty) 16 Tryz.underlying22 hi hz0 hz1 hz2 rfl _ 0 [] rfl hw0 w.heap.size (some p) n c _ rfl hA0.out (strs_one _) hm.out.1 hm.out.2 hB0.size ?_; intro v1 w1 hown1 hg1; have hB1 : Below w.heap.size w w1 := hB0.grown hg1 hB0.size (fun j e => (hw0.lt j e).1); rw [Nat.zero_add, List.nil_append] at hown1)
    go_ret
    exact ⟨_, rfl, by rw [hlh.out]; exact hown1, hB1⟩

/-- What a cell of a piece leaves. -/
theorem but_piece (w : World) (L : Nat) (hL : w.heap.size ≤ L) {w1 : World} (hb : Below w.heap.size w w1) (u0 u1 u2 u3 : Value) : Below w.heap.size w ((((w1.setCell ⟨L, 0, none⟩ u0).setCell ⟨L, 1, none⟩ u1).setCell ⟨L, 2, none⟩ u2).setCell ⟨L, 3, none⟩ u3) :=
  hb.trans ((But.piece w1 L u0 u1 u2 u3).below hb.size (by rintro k rfl; exact hL))

/-- A text, as the landed text makes it: a copy of the call's own. -/
def TextOut (w w' : World) (e : Ending) (xs : Txs) : Prop := ∃ A c, e = .returned (.agg #[.bool false, .slice A xs.length c, .slice none 0 0, .slice none 0 0]) ∧ TxO w w' (.slice A xs.length c) xs
theorem TextOut.piece {w w' : World} {e : Ending} {xs : Txs} (h : TextOut w w' e xs) : PieceOut w w' e (tPc xs) := by
  obtain ⟨A, c, rfl, hT⟩ := h
  obtain ⟨A', c', e1, h1, h2, h3⟩ := own_slice hT.own
  injection e1 with e2 e3 e4
  subst e2
  subst e4
  exact ⟨((A, xs.length, c), (none, 0, 0), (none, 0, 0)), rfl, PcR.text ⟨h1, h2, h3⟩, hT.below⟩

set_option maxHeartbeats 1000000 in
theorem text_any (A : Option Addr) (n c B : Nat) (ss : Txs) (w : World) (hn : n ≤ 1000000000) (hB : B ≤ w.heap.size) (hA : Strs w B A n ss) :
    Calls Tryz.prog 54 #[.slice A n c] w fun e w' => TextOut w w' e ss := by
  obtain ⟨W0, hW0⟩ : ∃ W0, W0 = w.alloc (.cells #[.bool false, .slice none 0 0, .slice none 0 0, .slice none 0 0] 44) := ⟨_, rfl⟩
  have hb0 : Below w.heap.size w W0 := by rw [hW0]; exact (Below.refl _ w).alloc (Nat.le_refl _) _
  have k0 : W0.heap[w.heap.size]? = some (.cells #[.bool false, .slice none 0 0, .slice none 0 0, .slice none 0 0] 44 (0, 0)) := by rw [hW0]; exact Go.Deep.blk_alloc_new w _
  have hs0 : W0.heap.size = w.heap.size + 1 := by rw [hW0]; simp
  have hC := Lib.hid (cloneT_any A n c B ss W0 hn (by omega) (hA.below (hb0.mono hB)))
  have hb0h := Lib.hid hb0
  have k0h := Lib.hid k0
  have hs0h := Lib.hid hs0
  have hW0h := Lib.hid hW0
  clear hA hb0 k0 hs0 hW0
  go_enter Tryz.func54, Tryz.ntmps54
  go_upto_region 1 with fail
  rw [← hW0h.out]
  go_wp2_with (go_at_call 90; refine hC.out.mono ?_; rintro e w1 ⟨v, rfl, hT⟩; obtain ⟨A1, c1, rfl, h1, h2, h3⟩ := own_slice hT.own; have k1 : w1.heap[w.heap.size]? = _ := ((hT.below.block _ (by have := hs0h.out; omega)).trans k0h.out); obtain ⟨e0, e1, e2, e3, z0, z1, z2, z3⟩ := piece_at k1; have hTh := Lib.hid hT; clear hT h1 h2 h3 k1)
  refine bodyPost_ret (v := .agg #[.bool false, .slice A1 ss.length c1, .slice none 0 0, .slice none 0 0]) (by simp [results, Tryz.results54, go_sem, World.cell?_setCell_same', e0, e1, e2, e3]) rfl ?_
  refine ⟨A1, c1, rfl, ?_, but_piece w w.heap.size (Nat.le_refl _) (hb0h.out.trans (hTh.out.below.mono hb0h.out.size)) _ _ _ _⟩
  have h1 := hTh.out.own
  refine ownsRow_kept (ownsRow_low h1 hb0h.out.size) fun k e => ?_
  have h2 := (h1.lt k e)
  have h3 := hs0h.out
  exact (But.piece w1 w.heap.size _ _ _ _).block k h2.2 (by omega)

set_option maxHeartbeats 1000000 in
/-- The side of a number. -/
theorem sideOf_yes (A : Option Addr) (n c k : Nat) (rows : List Slc) (sides : List Txs) (B : Nat) (w : World) (hn : n ≤ maxLen) (hk : k < n) (hA : RowsT w B A n rows sides) :
    Calls Tryz.prog 35 #[.slice A n c, .int .i64 ((k : Int) + 1)] w fun e w' => (∃ A1 n1 c1 ss, e = .returned (.tuple #[.slice A1 n1 c1, .bool true]) ∧ sides[k]? = some ss ∧ TxR w B (A1, n1, c1) ss) ∧ w' = w := by
  obtain ⟨b, o, A1, n1, c1, ss, rfl, hb, hss, -, hc, hnc, hcm, hS⟩ := hA.at_ hk
  unfold maxLen at hn
  have f1 : decide ((k : Int) + 1 < 1) = false := decide_eq_false (by omega)
  have f2 : decide ((n : Int) < (k : Int) + 1) = false := decide_eq_false (by omega)
  have i1 : (0 : Int) ≤ (k : Int) := by omega
  have i2 : (k : Int) < (n : Int) := by omega
  have hfin := Lib.hid (And.intro hss (show TxR w B (A1, n1, c1) ss from ⟨hnc, hcm, hS⟩))
  clear hA hss hnc hcm hS
  go_enter Tryz.func35, Tryz.ntmps35
  go_wp2
  go_ret2
  exact ⟨⟨A1, n1, c1, ss, rfl, hfin.out.1, hfin.out.2⟩, rfl⟩
set_option maxHeartbeats 1000000 in
theorem sideOf_no (A : Option Addr) (n c : Nat) (z : Int) (w : World) (hn : n ≤ maxLen) (hz : ¬ (1 ≤ z ∧ z ≤ n)) :
    Calls Tryz.prog 35 #[.slice A n c, .int .i64 z] w fun e w' => e = .returned (.tuple #[.slice none 0 0, .bool false]) ∧ w' = w := by
  unfold maxLen at hn
  by_cases h1 : z < 1
  · have f1 : decide (z < 1) = true := decide_eq_true h1
    clear hz
    go_enter Tryz.func35, Tryz.ntmps35
    go_wp2
    go_ret2
    exact ⟨rfl, rfl⟩
  · have h2 : (n : Int) < z := by omega
    have f1 : decide (z < 1) = false := decide_eq_false h1
    have f2 : decide ((n : Int) < z) = true := decide_eq_true h2
    clear hz
    go_enter Tryz.func35, Tryz.ntmps35
    go_wp2
    go_ret2
    exact ⟨rfl, rfl⟩
end Go.Proofs.YtoephlkfejcadaaGreat
/- Proved here, without conditions: plain facts on texts that are put behind others, as the landed union does it. -/
namespace Go.Proofs.YtoephlkfejcadaaGreat
set_option linter.unusedVariables false

theorem closed_append (a : Txs) {b : Txs} (h : b ≠ []) : closed (a ++ b) = a ++ closed b := by
  unfold closed
  rw [List.getLast?_append]
  cases hb : b.getLast? with
  | none => exact absurd (List.getLast?_eq_none_iff.1 hb) h
  | some s =>
    simp only [Option.some_or]
    split
    · rfl
    · rw [List.dropLast_append_of_ne_nil h, List.append_assoc]
theorem closed_nil : closed [] = [] := rfl
theorem union_any_iff (ds : List Txs) : ds.any (fun x => !x.isEmpty) = true ↔ unionT ds ≠ [] := by
  rw [← List.length_pos_iff, union_len, List.length_pos_iff, List.any_eq_true]
  constructor
  · rintro ⟨x, hx, h⟩ e
    rw [List.flatten_eq_nil_iff] at e
    rw [e x hx] at h
    simp at h
  · intro h
    apply Classical.byContradiction
    intro hn
    apply h
    rw [List.flatten_eq_nil_iff]
    intro x hx
    apply Classical.byContradiction
    intro hx2
    exact hn ⟨x, hx, by cases x <;> simp_all⟩
theorem union_snoc (d : Txs) : ∀ ds : List Txs, unionT (ds ++ [d]) = (if d = [] then unionT ds else closed (unionT ds)) ++ d
  | [] => by
    simp only [List.nil_append, unionT, List.any_nil, Bool.false_eq_true, if_false, List.append_nil, closed_nil]
    split <;> rfl
  | e :: es => by
    have ih := union_snoc d es
    have hu := union_any_iff es
    rw [List.cons_append, unionT, ih, List.any_append, unionT]
    by_cases hd : d = []
    · subst hd
      simp
    · have h1 : ([d].any fun x => !x.isEmpty) = true := by simp [hd]
      rw [h1, Bool.or_true, if_pos rfl, if_neg hd, if_neg hd, ← List.append_assoc]
      congr 1
      by_cases he : (es.any fun x => !x.isEmpty) = true
      · rw [if_pos he, closed_append _ (hu.1 he)]
      · have h2 : unionT es = [] := by
          apply Classical.byContradiction
          intro h
          exact he (hu.2 h)
        rw [if_neg he, h2, closed_nil, List.append_nil, List.append_nil]
theorem union_take {ds : List Txs} {i : Nat} {d : Txs} (h : ds[i]? = some d) : unionT (ds.take (i + 1)) = (if d = [] then unionT (ds.take i) else closed (unionT (ds.take i))) ++ d := by
  rw [take_at h, union_snoc]
theorem closed_mem {d : Txs} {s : Tx} (h : s ∈ closed d) : ∃ t ∈ d, s = t ∨ s = t ++ [10] := by
  unfold closed at h
  cases hd : d.getLast? with
  | none => rw [hd] at h; exact ⟨s, h, .inl rfl⟩
  | some t =>
    rw [hd] at h
    dsimp only at h
    split at h
    · exact ⟨s, h, .inl rfl⟩
    · rcases List.mem_append.1 h with h | h
      · exact ⟨s, List.dropLast_subset d h, .inl rfl⟩
      · rw [List.mem_singleton.1 h]
        exact ⟨t, List.mem_of_getLast? hd, .inr rfl⟩
theorem union_mem {s : Tx} : ∀ {ds : List Txs}, s ∈ unionT ds → ∃ d ∈ ds, ∃ t ∈ d, s = t ∨ s = t ++ [10]
  | [], h => by simp [unionT] at h
  | d :: ds, h => by
    unfold unionT at h
    rcases List.mem_append.1 h with h | h
    · split at h
      · exact ⟨d, List.mem_cons_self .., closed_mem h⟩
      · exact ⟨d, List.mem_cons_self .., s, h, .inl rfl⟩
    · obtain ⟨e, he, r⟩ := union_mem h
      exact ⟨e, List.mem_cons_of_mem _ he, r⟩
theorem union_small {ds : List Txs} (h : ∀ d ∈ ds, ∀ s ∈ d, s.length ≤ 1000000) (i : Nat) : ∀ s ∈ unionT (ds.take i), s.length ≤ 1000001 := by
  intro s hs
  obtain ⟨d, hd, t, ht, e⟩ := union_mem hs
  have := h d (List.mem_of_mem_take hd) t ht
  rcases e with rfl | rfl
  · omega
  · simp; omega
theorem union_pre (ds : List Txs) (i : Nat) : (unionT (ds.take i)).length ≤ (unionT ds).length := by
  rw [union_len, union_len]
  conv => rhs; rw [← List.take_append_drop i ds]
  rw [List.flatten_append, List.length_append]
  omega
/-- An open list, closed: its last text's place. -/
theorem closed_set {d : Txs} {s : Tx} {m : Nat} (hm : d.length = m + 1) (hs : d[m]? = some s) : closed d = if endedB s then d else d.set m (s ++ [10]) := by
  have hl : d.getLast? = some s := by rw [List.getLast?_eq_getElem?, hm]; exact hs
  unfold closed
  rw [hl]
  dsimp only
  split
  · rfl
  · apply List.ext_getElem?
    intro j
    have hdl : d.dropLast.length = m := by simp [hm]
    rcases Nat.lt_trichotomy j m with h | h | h
    · rw [List.getElem?_append_left (by omega), List.getElem?_dropLast, if_pos (by omega), List.getElem?_set_ne (by omega)]
    · subst h
      rw [List.getElem?_append_right (by omega), hdl, Nat.sub_self, List.getElem?_set_self (by omega)]
      rfl
    · rw [List.getElem?_eq_none (by simp; omega), List.getElem?_eq_none (by simp; omega)]
theorem open_last {d : Txs} {s : Tx} {m : Nat} (hm : d.length = m + 1) (hs : d[m]? = some s) : openB d = !endedB s := by
  have hl : d.getLast? = some s := by rw [List.getLast?_eq_getElem?, hm]; exact hs
  unfold openB
  rw [hl]
end Go.Proofs.YtoephlkfejcadaaGreat
/- Proved here: contracts of the landed package lines: ended, Open (each for strings of at most maxLen bytes); for stages behind the first: NOT beside stage 1's Lines, which has the same names. -/
namespace Go.Proofs.YtoephlkfejcadaaGreat
open Go.RowKit
set_option linter.unusedVariables false

set_option maxHeartbeats 400000 in
theorem ended_any (s : ByteArray) (w : World) (hs : s.size ≤ maxLen) :
    Calls Tryz.prog 93 #[.string s] w fun e w' => e = .returned (.bool (endedB s.data.toList)) ∧ w = w' := by
  unfold maxLen at hs
  by_cases h : s.toList = []
  · go_enter Tryz.func93, Tryz.ntmps93
    go_wp2
    go_ret
    exact ⟨ret_bool (by rw [data_nil h]; rfl), rfl⟩
  · have h1 := size_pos h
    have h2 : (!s.toList.isEmpty) = true := by simpa using h
    go_enter Tryz.func93, Tryz.ntmps93
    go_wp2
    go_ret
    exact ⟨ret_bool (by rw [last_byte s h1 _ rfl (by omega)]), rfl⟩

set_option maxHeartbeats 400000 in
theorem Open_any (A : Option Addr) (n c B : Nat) (ss : List (List UInt8)) (w : World) (hn : n ≤ maxLen) (hs : ∀ s ∈ ss, s.length ≤ maxLen) (hA : Strs w B A n ss) :
    Calls Tryz.prog 121 #[.slice A n c] w fun e w' => e = .returned (.bool (openB ss)) ∧ w = w' := by
  unfold maxLen at hn
  have hl := hA.len
  by_cases h0 : n = 0
  · subst h0
    have hd : decide ((0 : Int) < ((0 : Nat) : Int)) = false := by decide
    go_enter Tryz.func121, Tryz.ntmps121
    go_wp2
    go_ret
    obtain rfl : ss = [] := List.eq_nil_of_length_eq_zero hl
    exact ⟨rfl, rfl⟩
  · obtain ⟨b, o, t, rfl, _, ht, hc⟩ := hA.at_ (k := n - 1) (by omega)
    have htl : t.length ≤ maxLen := hs t (List.mem_of_getElem? ht)
    have hres : Hid ((!endedB (str t).data.toList) = openB ss) := Lib.hid <| by
      rw [str_data]; unfold openB; rw [List.getLast?_eq_getElem?, hl, ht]
    have h1 : (1 : Int) ≤ n := by omega
    have hd : decide ((0 : Int) < (n : Int)) = true := by simp; omega
    go_enter Tryz.func121, Tryz.ntmps121
    go_wp2_with (go_at_call 93; refine (ended_any (str t) _ (by rw [str_size]; exact htl)).mono ?_; rintro e w' ⟨rfl, rfl⟩)
    go_ret
    exact ⟨ret_bool hres.out, rfl⟩
end Go.Proofs.YtoephlkfejcadaaGreat
/- Proved here: the contract of the landed package pick's union, and of the pile of texts that it puts together. -/
namespace Go.Proofs.YtoephlkfejcadaaGreat
open Go.RowKit
set_option linter.unusedVariables false

/-- The pile of texts: its block, the block of the method value that tells what was put last. -/
structure PileS (w wr : World) (v : Value) (xs : Txs) : Prop where
  box : Boxed wr w.heap.size 172 v
  fn : Boxed wr (w.heap.size + 1) 173 (.func (.func 119) #[.pointer (some ⟨w.heap.size, 0, none⟩)] #[])
  own : TxO w wr v xs
section
variable {w wr w1 w2 : World} {v v' : Value} {xs ys : Txs}
theorem pile_not {L : Nat} {t : TypeId} {u : Value} (h : Boxed wr L t u) (hT : TxO w wr v xs) (ht : t ≠ 9) : ∀ k, v.ownBlock = some k → k ≠ L := fun k e h1 => Boxed.not_row h ht hT.own (by rw [e, h1])
theorem PileS.drewN (h : PileS w wr v xs) (q : Nat) : PileS w (wr.drewN q) v xs := ⟨h.box, h.fn, h.own.own, below_drewN h.own.below q⟩
theorem PileS.put {A : Option Addr} {n c : Nat} (h : PileS w wr v xs) (hT : TxO w w2 (.slice A n c) ys) (hg : wr.grownBy w2 v.ownBlock) : Boxed w2 w.heap.size 172 v ∧ PileS w (w2.setCell ⟨w.heap.size, 0, none⟩ (.slice A n c)) (.slice A n c) ys := by
  have hb : Boxed w2 w.heap.size 172 v := h.box.kept hg fun e => pile_not h.box h.own (by decide) _ e.symm rfl
  have hf := h.fn.kept hg fun e => pile_not h.fn h.own (by decide) _ e.symm rfl
  have hs : But (fun k => k = w.heap.size) w2 (w2.setCell ⟨w.heap.size, 0, none⟩ (.slice A n c)) := But.setCell (F := fun j => j = w.heap.size) w2 (p := ⟨w.heap.size, 0, none⟩) rfl _
  have hlt := hf.lt
  refine ⟨hb, hb.set _, (hs.block _ hlt (by omega)).trans hf, ownsRow_kept hT.own fun k e => hs.block k (hT.own.lt k e).2 (pile_not hb hT (by decide) k e), hT.below.trans (hs.below hT.below.size (by rintro k rfl; exact Nat.le_refl _))⟩
end

set_option maxRecDepth 100000 in
set_option maxHeartbeats 1000000 in
theorem pilePut_any (A : Option Addr) (n c B : Nat) (v : Value) (xs ys : Txs) (w wr : World) (hP : PileS w wr v xs) (hA : Strs wr B A n ys) (hm : xs.length + n ≤ 1000000000) :
    Calls Tryz.prog 122 #[.pointer (some ⟨w.heap.size, 0, none⟩), .slice A n c] wr fun e w' => e = .returned (.tuple #[]) ∧ ∃ v', PileS w w' v' (xs ++ ys) := by
  obtain ⟨i0, hi, hzz⟩ := Option.map_eq_some_iff.1 infoStr
  simp only [Prod.mk.injEq] at hzz
  obtain ⟨hz0, hz1, hz2⟩ := hzz
  have hl := Lib.hid hA.len
  have hle : Hid (xs.length + n ≤ maxLen ∧ (xs.length + n) * 16 ≤ 140737488355328) := Lib.hid ⟨by unfold maxLen; omega, by omega⟩
  have x0 := hP.box.cell
  have hown := hP.own.own
  have hsz := hP.own.below.size
  have hPh := Lib.hid hP
  have hAh := Lib.hid hA
  clear hP hA hm
  go_enter Tryz.func122, Tryz.ntmps122
  go_wp2_with (at_builtin; refine wpList_append_reads _ rfl _ _ 22 rfl w.heap.size 9 i0 (.string ByteArray.empty) 16 Tryz.underlying22 hi hz0 hz1 hz2 rfl v xs.length _ rfl hown B A n c _ rfl hAh.out (strs_one _) hle.out.1 hle.out.2 hsz ?_; intro v' w2 hown2 hg2; have hT := hPh.out.own.put hl.out hown2 hg2; obtain ⟨A2, c2, rfl, -, -, -⟩ := own_slice hown2; have hfin := Lib.hid (hPh.out.put hT hg2); have x1 := hfin.out.1.cell; have x2 := hfin.out.1.frozen; clear hT x0)

  go_end0
  exact ⟨rfl, _, hfin.out.2⟩

set_option maxRecDepth 100000 in
set_option maxHeartbeats 1000000 in
theorem pileLast_any (g m cap : Nat) (w : World) (L : Nat) (hm : m < maxLen) (hL : Boxed w L 172 (.slice (some ⟨g, 0, none⟩) (m + 1) cap)) :
    Calls Tryz.prog 119 #[.pointer (some ⟨L, 0, none⟩)] w fun e w' => e = .returned (.pointer (some ⟨g, m, none⟩)) ∧ ∃ q, w' = w.drewN q := by
  obtain ⟨N, hN⟩ : ∃ N, m + 1 = N := ⟨_, rfl⟩
  rw [hN] at hL
  unfold maxLen at hm
  have x0 := hL.cell
  have e0 : ((N : Int) == 0) = false := by simp; omega
  have e1 : (N : Int) - 1 = (m : Int) := by omega
  have e2 : IntKind.i64.wrap ((N : Int) - 1) = (m : Int) := by rw [e1]; exact IntWalk.i64_in _ (by omega)
  have i1 : (0 : Int) ≤ (m : Int) := by omega
  have i2 : (m : Int) < (N : Int) := by omega
  clear hL hN
  go_enter Tryz.func119, Tryz.ntmps119
  go_wp2
  go_quiet (fail)
  go_wp2
  go_ret
  exact ⟨by simp, nq, rfl⟩
end Go.Proofs.YtoephlkfejcadaaGreat
