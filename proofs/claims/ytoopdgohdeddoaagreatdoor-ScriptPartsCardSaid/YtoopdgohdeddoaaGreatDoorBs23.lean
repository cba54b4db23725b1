/- Proved here: texts joined: ContPt, FlKind, Open. -/
import Derived.Test.YtoopdgohdeddoaaGreatDoorBs02
import Derived.Test.YtoopdgohdeddoaaGreatDoorBs04
import Derived.Test.YtoopdgohdeddoaaGreatDoorBs06
import Derived.Test.YtoopdgohdeddoaaGreatDoorBs10
import Derived.Test.YtoopdgohdeddoaaGreatDoorBs19
import Derived.Test.YtoopdgohdeddoaaGreatDoorBs22
import Derived.Laws.StructEq
import Derived.Deep.RegionLaw
import Derived.Deep.RegionHeld3
import Derived.Deep.DeepCutAuto
import Derived.Outline
import Derived.Test.YtoopdgohdeddoaaGreatDoorChecked
import Derived.WalkLawsBesides
import Derived.Deep.QuietTactic
import Derived.BigQuiet
import Derived.Lib.Hide
/- Proved here: contracts of the document's own answers of layer 6: within, Parts. -/
namespace Go.Proofs.YtoopdgohdeddoaaGreatDoor
open Go.RowKit
set_option linter.unusedVariables false

set_option maxHeartbeats 800000 in
theorem rWithin_any (a b : Int) (n : Nat) (w : World) (hn : n ≤ maxLen) :
    Calls Tryz.prog 51 #[.agg #[.int .i64 a, .int .i64 b], .int .i64 n] w fun e w' => e = .returned (.bool (inB (a, b) n)) ∧ Below w.heap.size w w' := by
  have hb : Below w.heap.size w (w.alloc (.cells #[.int .i64 a, .int .i64 b] 48)) := (Below.refl _ _).alloc (Nat.le_refl _) _
  have hbh := Lib.hid hb
  obtain ⟨r, hr⟩ : ∃ r, inB (a, b) n = r := ⟨_, rfl⟩
  have hrh := Lib.hid hr
  rw [hr]
  clear hb hr
  unfold maxLen at hn
  by_cases h1 : 0 ≤ a
  · by_cases h2 : a ≤ b
    · by_cases h3 : b ≤ n
      · have hrt : r = true := by rw [← hrh.out]; unfold inB; simp [h1, h2, h3]
        subst hrt
        have d1 : decide (0 ≤ a) = true := by simpa using h1
        have d2 : decide (a ≤ b) = true := by simpa using h2
        have d3 : decide (b ≤ (n : Int)) = true := by simpa using h3
        go_enter Tryz.func51, Tryz.ntmps51
        go_wp2
        go_ret
        exact ⟨rfl, hbh.out⟩
      · have hrt : r = false := by rw [← hrh.out]; unfold inB; simp [h3]
        subst hrt
        have d1 : decide (0 ≤ a) = true := by simpa using h1
        have d2 : decide (a ≤ b) = true := by simpa using h2
        have d3 : decide (b ≤ (n : Int)) = false := by simpa using h3
        go_enter Tryz.func51, Tryz.ntmps51
        go_wp2
        go_ret
        exact ⟨rfl, hbh.out⟩
    · have hrt : r = false := by rw [← hrh.out]; unfold inB; simp [h2]
      subst hrt
      have d1 : decide (0 ≤ a) = true := by simpa using h1
      have d2 : decide (a ≤ b) = false := by simpa using h2
      go_enter Tryz.func51, Tryz.ntmps51
      go_wp2
      go_ret
      exact ⟨rfl, hbh.out⟩
  · have hrt : r = false := by rw [← hrh.out]; unfold inB; simp [h1]
    subst hrt
    have d1 : decide (0 ≤ a) = false := by simpa using h1
    go_enter Tryz.func51, Tryz.ntmps51
    go_wp2
    go_ret
    exact ⟨rfl, hbh.out⟩

/-- How far Parts has come. -/
structure PtIn (w wr : World) (c : Ck) (A : Option Addr) (n k : Nat) : Prop where
  box : wr.heap[w.heap.size]? = some (.cells #[.bool c.1, .int .i64 c.2.1.1, .int .i64 c.2.1.2, .slice A n k] 51 (0, 0))
  below : Below w.heap.size w wr
theorem PtIn.at_ {w wr : World} {c : Ck} {A : Option Addr} {n k : Nat} (h : PtIn w wr c A n k) : wr.cell? ⟨w.heap.size, 1, none⟩ = some (.int .i64 c.2.1.1) ∧ wr.cell? ⟨w.heap.size, 2, none⟩ = some (.int .i64 c.2.1.2) ∧ wr.cell? ⟨w.heap.size, 3, none⟩ = some (.slice A n k) ∧ w.heap.size < wr.heap.size :=
  ⟨by rw [cells_of h.box]; rfl, by rw [cells_of h.box]; rfl, by rw [cells_of h.box]; rfl, (Array.getElem?_eq_some_iff.1 h.box).1⟩
theorem PtIn.up {w wr w' : World} {c : Ck} {A : Option Addr} {n k : Nat} (h : PtIn w wr c A n k) (hb : Below wr.heap.size wr w') : PtIn w w' c A n k :=
  ⟨(hb.block _ h.at_.2.2.2).trans h.box, h.below.trans (hb.mono h.below.size)⟩

/-- What Parts tells, all texts below a bound of their own, the parts in a row of the call's own. -/
def PartsOutR (B : Nat) (w w' : World) (e : Ending) (er : Int) (bs : Txs) (pss : List Txs) : Prop :=
  ∃ A n c A' n' c' rows, e = .returned (.tuple #[.slice A n c, .slice A' n' c', .int .i64 er]) ∧ TxR w' B (A, n, c) bs ∧ n' ≤ c' ∧ c' ≤ maxLen ∧ RowsT w' w'.heap.size A' n' rows pss ∧ w'.ownsRow w.heap.size 22 1 (.slice A' n' c') n' (rows.map slcV) ∧
    (∀ (k : Nat) (r : Slc) (ss : Txs), rows[k]? = some r → pss[k]? = some ss → TxR w' B r ss) ∧ Below w.heap.size w w'
theorem PartsOutR.nothing {B : Nat} {w w' : World} (er : Int) (h : Below w.heap.size w w') : PartsOutR B w w' (.returned (.tuple #[.slice none 0 0, .slice none 0 0, .int .i64 er])) er [] [] :=
  ⟨.none, 0, 0, .none, 0, 0, [], rfl, TxR.nil _ _, Nat.le_refl _, Nat.zero_le _, RowsT.nil _ _ _, World.ownsRow_nil _ _ _ _, fun k r ss h => by simp at h, h⟩
theorem PartsOutR.out {B : Nat} {w w' : World} {e : Ending} {er : Int} {bs : Txs} {pss : List Txs} (hB : B ≤ w.heap.size) (h : PartsOutR B w w' e er bs pss) : PartsOut w w' e er bs pss := by
  obtain ⟨A, n, c, A', n', c', rows, h1, h2, h3, h4, h5, h6, h7, h8⟩ := h
  exact ⟨A, n, c, A', n', c', rows, h1, h2.more (Nat.le_trans hB h8.size), h3, h4, h5, h8⟩

set_option maxRecDepth 100000 in
set_option maxHeartbeats 4000000 in
theorem rParts_anyR (B : Nat) (st : Bool) (f t : Int) (spans : List Sp) (A1 : Option Addr) (n1 c1 : Nat) (A0 : Option Addr) (n0 c0 : Nat) (base : Txs) (A : Option Addr) (n c : Nat) (rows : List Slc) (sides : List Txs) (w : World) (hn : n ≤ 100000) (hn1 : n1 ≤ maxLen) (hA1 : Spans w w.heap.size A1 n1 spans) (hB : B ≤ w.heap.size) (hA0 : TxR w B (A0, n0, c0) base) (hA : RowsT w w.heap.size A n rows sides) (hAB : ∀ (k : Nat) (r : Slc) (ss : Txs), rows[k]? = some r → sides[k]? = some ss → TxR w B r ss) :
    Calls Tryz.prog 25 #[.agg #[.bool st, .int .i64 f, .int .i64 t, .slice A1 n1 c1], .slice A0 n0 c0, .slice A n c] w fun e w' => PartsOutR B w w' e (partErr (st, (f, t), spans) base sides) (partBase (st, (f, t), spans) base sides) (partSides (st, (f, t), spans) base sides) := by
  have hl := hA.len
  have hl1 := hA1.len
  have hl0 : base.length = n0 := hA0.2.2.len
  have hn0 : n0 ≤ maxLen := Nat.le_trans hA0.1 hA0.2.1
  unfold maxLen at hn1
  by_cases hnn : n1 = n
  rotate_left
  · have he : partErr (st, (f, t), spans) base sides = 1 := err_arg (by show spans.length ≠ _; omega)
    have hb : partBase (st, (f, t), spans) base sides = [] := by unfold partBase; rw [he]; rfl
    have hs : partSides (st, (f, t), spans) base sides = [] := by unfold partSides; rw [he]; rfl
    rw [he, hb, hs]
    have hne : ((n1 : Int) != (n : Int)) = true := by simp; omega
    clear hA0 hA hA1 he hb hs
    go_enter Tryz.func25, Tryz.ntmps25
    go_wp2
    go_ret3
    exact PartsOutR.nothing 1 ((Below.refl _ _).alloc (Nat.le_refl _) _)
  subst hnn
  have hne : ((n1 : Int) != (n1 : Int)) = false := by simp
  obtain ⟨i0, hi, hz⟩ := Option.map_eq_some_iff.1 infoTxs
  simp only [Prod.mk.injEq] at hz
  obtain ⟨hz0, hz1, hz2⟩ := hz
  have hAh := Lib.hid hA
  have hA0h := Lib.hid hA0
  have hABh := Lib.hid hAB
  have hBh := Lib.hid hB
  have hA1h := Lib.hid hA1
  have hlh := Lib.hid hl
  have hl1h := Lib.hid hl1
  have hl0h := Lib.hid hl0
  have hst : PtIn w (w.alloc (.cells #[.bool st, .int .i64 f, .int .i64 t, .slice A1 n1 c1] 51)) (st, (f, t), spans) A1 n1 c1 := ⟨Go.Deep.blk_alloc_new w _, (Below.refl _ _).alloc (Nat.le_refl _) _⟩
  have hsth := Lib.hid hst
  obtain ⟨ok0, hok0⟩ : ∃ ok0, inB (f, t) n0 = ok0 := ⟨_, rfl⟩
  have hW0 := Lib.hid (rWithin_any f t n0 (w.alloc (.cells #[.bool st, .int .i64 f, .int .i64 t, .slice A1 n1 c1] 51)) hn0)
  rw [hok0] at hW0
  have hok0h := Lib.hid hok0
  clear hA hA0 hAB hB hA1 hst hok0 hl hl1 hl0
  go_enter Tryz.func25, Tryz.ntmps25
  go_wp2_with (go_at_call 51; refine hW0.out.mono ?_; rintro e w1 ⟨rfl, hb1⟩; have hst1 := Lib.hid (hsth.out.up hb1); clear hb1)
  go_loopw [9, 10] (fun s9 s10 wr => ∃ (i : Nat) (ok : Bool), i ≤ n1 ∧ s10 = .int .i64 i ∧ s9 = .bool ok ∧ Hid (ok = true ↔ ok0 = true ∧ insB spans sides i) ∧ Hid (PtIn w wr (st, (f, t), spans) A1 n1 c1)) (fun _ s10 _ => n1 - (intOf s10).toNat)
  case atStart => exact ⟨0, ok0, Nat.zero_le _, rfl, rfl, Lib.hid ⟨fun h => ⟨h, fun i s l hi => absurd hi (by omega)⟩, fun h => h.1⟩, hst1⟩
  case round =>
    obtain ⟨i, ok, hin, rfl, rfl, hok, hP⟩ := hrel
    obtain ⟨wo, rfl⟩ : ∃ wo : World, wo = wr := ⟨_, rfl⟩
    clear hst1 hW0 hsth
    obtain ⟨d1, d2, d3, hwl⟩ := hP.out.at_
    dsimp only at d1 d2
    by_cases hlt : i < n1
    · obtain ⟨b, o, A2, n2, c2, l, rfl, hb, hll, -, hc, hnc, hcm, hSt⟩ := (hAh.out.below hP.out.below).at_ (k := i) hlt
      obtain ⟨b', o', ⟨s1, s2⟩, rfl, hb', hs, e1, e2⟩ := (hA1h.out.keep (w' := wo) (fun p hp => hP.out.below.cell hp)).at_ (k := i) hlt
      dsimp only at e1 e2
      have i1 : (0 : Int) ≤ (i : Int) := by omega
      have i2 : (i : Int) < (n1 : Int) := by omega
      have hst2 := insB_step hs hll
      rw [hSt.len] at hst2
      have hst2h := Lib.hid hst2
      clear hs hll hst2 hSt
      cases ok
      · go_wp2
        go_quiet (fail)
        obtain ⟨z1, rfl⟩ : ∃ z1, z1 = nq := ⟨_, rfl⟩
        go_wp2
        go_roundw
        case rel => exact ⟨i + 1, false, by omega, by go_num, rfl, Lib.hid ⟨fun h => (by cases h), fun h => hok.out.2 ⟨h.1, (hst2h.out.1 h.2).1⟩⟩, Lib.hid (hP.out.up ⟨rfl, rfl, rfl, Nat.le_refl _, fun _ _ => rfl⟩)⟩
        case measure => simp [intOf]; omega
      · have hok1 := Lib.hid (hok.out.1 rfl)
        obtain ⟨bb, hbb⟩ : ∃ bb, inB (s1, s2) n2 = bb := ⟨_, rfl⟩
        rw [hbb] at hst2h
        have hcall : Hid (∀ x : Grew wo, Calls Tryz.prog 51 #[.agg #[.int .i64 s1, .int .i64 s2], .int .i64 n2] x.w fun e w'' => e = .returned (.bool bb) ∧ ∃ y : Grew wo, w'' = y.w) := Lib.hid (grew_call fun w' _ => by rw [← hbb]; exact rWithin_any s1 s2 n2 w' (by omega))
        have g0 : ∀ x : Grew wo, x.w.cell? ⟨w.heap.size, 3, none⟩ = some (.slice (some ⟨b', o', none⟩) n1 c1) := fun x => (x.below.cell (p := ⟨w.heap.size, 3, none⟩) hwl).trans d3
        have g1 : ∀ x : Grew wo, x.w.cell? ⟨b', o' + i * 2, none⟩ = some (.int .i64 s1) := fun x => (x.below.cell (p := ⟨b', o' + i * 2, none⟩) (by show b' < _; omega)).trans e1
        have g2 : ∀ x : Grew wo, x.w.cell? ⟨b', o' + i * 2 + 1, none⟩ = some (.int .i64 s2) := fun x => (x.below.cell (p := ⟨b', o' + i * 2 + 1, none⟩) (by show b' < _; omega)).trans e2
        have g3 : ∀ x : Grew wo, x.w.cell? ⟨b, o + i, none⟩ = some (.slice A2 n2 c2) := fun x => (x.below.cell (p := ⟨b, o + i, none⟩) (by show b < _; omega)).trans hc
        haveI hne5 : Nonempty (Grew wo) := grew_here wo
        clear hbb
        go_wp2
        refine quiet_grew (by kernel_rfl) (by kernel_rfl) ?_
        repeat (go_big_quiet_step ((go_at_call 51; exact hcall.out _)))
        refine wpQuiet_nil ?_
        rintro wx ⟨⟨wz, hwx⟩, hwz⟩
        have hwz' : wx = wz := hwz
        subst hwz'
        clear hwz g0 g1 g2 g3
        have hwxh := Lib.hid hwx
        clear hwx
        go_wp2
        go_roundw
        case rel =>
          refine ⟨i + 1, bb, by omega, by go_num, rfl, Lib.hid ?_, Lib.hid (hP.out.up hwxh.out)⟩
          rw [hst2h.out]
          have := hok1.out
          constructor
          · rintro rfl; exact ⟨this.1, this.2, rfl⟩
          · rintro ⟨_, _, h⟩; exact h
        case measure => simp [intOf]; omega
    · obtain rfl : i = n1 := by omega
      have hok1 := hok.out
      cases ok
      · have hno : ¬ (inB (f, t) base.length = true ∧ insB spans sides sides.length) := by
          rw [hl0h.out, hok0h.out, hlh.out]
          intro h
          have := hok1.2 h
          cases this
        have he := err_range (c := (st, (f, t), spans)) (base := base) (sides := sides) (by show spans.length = _; rw [hlh.out, hl1h.out]) hno
        have hb : partBase (st, (f, t), spans) base sides = [] := by unfold partBase; rw [he]; rfl
        have hs : partSides (st, (f, t), spans) base sides = [] := by unfold partSides; rw [he]; rfl
        have heh := Lib.hid (And.intro he (And.intro hb hs))
        clear hno he hb hs hok1
        go_wp2
        go_ret3
        rw [heh.out.1, heh.out.2.1, heh.out.2.2]
        exact PartsOutR.nothing 3 hP.out.below
      · have hyes := hok1.1 rfl
        have hin0 : inB (f, t) n0 = true := by rw [hok0h.out]; exact hyes.1
        obtain ⟨k0, k1, k2⟩ := inB_parts hin0
        dsimp only at k0 k1 k2
        have he := err_none (c := (st, (f, t), spans)) (base := base) (sides := sides) (by show spans.length = _; rw [hlh.out, hl1h.out]) ⟨by show inB (f, t) _ = true; rw [hl0h.out]; exact hin0, by rw [hlh.out]; exact hyes.2⟩
        have hb : partBase (st, (f, t), spans) base sides = cutT base (f, t) := by unfold partBase; rw [he]; rfl
        have hs : partSides (st, (f, t), spans) base sides = cutsT spans sides := by unfold partSides; rw [he]; rfl
        have heh := Lib.hid (And.intro he (And.intro hb hs))
        obtain ⟨A3, m3, c3, hsl, hT3, -, -⟩ := slice_txs hA0h.out k0 k1 k2
        have hT3h := Lib.hid hT3
        have hslh := Lib.hid hsl
        have hinsh := Lib.hid hyes.2
        have hclen : Hid ((cutsT spans sides).length = i) := Lib.hid (by unfold cutsT; rw [List.length_zipWith, hl1h.out, hlh.out]; simp)
        have hcl : Hid (∀ (j : Nat) (s : Sp) (l : Txs), spans[j]? = some s → sides[j]? = some l → (cutsT spans sides)[j]? = some (cutT l s)) := Lib.hid (fun j s l a b => by unfold cutsT; rw [List.getElem?_zipWith, a, b])
        clear he hb hs hok1 hyes hin0 k0 k1 k2 hsl hT3 d1 d2 d3
        go_wp2
        go_loopw [11, 12] (fun s11 s12 wr => ∃ (k : Nat) (v : Value) (rs : List Slc), k ≤ i ∧ s12 = .int .i64 k ∧ v = s11 ∧ Hid (RowsO w.heap.size wr v rs ((cutsT spans sides).take k)) ∧ Hid (∀ (j : Nat) (r : Slc) (ss : Txs), rs[j]? = some r → ((cutsT spans sides).take k)[j]? = some ss → TxR w B r ss) ∧ Hid (PtIn w wr (st, (f, t), spans) A1 i c1)) (fun _ s12 _ => i - (intOf s12).toNat)
        case atStart => exact ⟨0, _, [], Nat.zero_le _, rfl, rfl, Lib.hid (RowsO.start _ _), Lib.hid (fun j r ss h => by simp at h), hP⟩
        case round =>
          obtain ⟨k, v, rs, hki, rfl, rfl, hR, hLw, hQ⟩ := hrel
          obtain ⟨wo, rfl⟩ : ∃ wo : World, wo = wr := ⟨_, rfl⟩
          clear hP
          obtain ⟨d1, d2, d3, hwl⟩ := hQ.out.at_
          dsimp only at d1 d2
          by_cases hlt2 : k < i
          · obtain ⟨b, o, A2, n2, c2, l, rfl, hb, hll, hrow9, hc, hnc, hcm, hSt⟩ := (hAh.out.below hQ.out.below).at_ (k := k) hlt2
            obtain ⟨b', o', ⟨s1, s2⟩, rfl, hb', hs, e1, e2⟩ := (hA1h.out.keep (w' := wo) (fun p hp => hQ.out.below.cell hp)).at_ (k := k) hlt2
            dsimp only at e1 e2
            have hin := hinsh.out k (s1, s2) l hlt2 hs hll
            rw [hSt.len] at hin
            obtain ⟨k0, k1, k2⟩ := inB_parts hin
            dsimp only at k0 k1 k2
            obtain ⟨A4, m4, c4, hsl4, hT4w, hap4, -⟩ := slice_txs (w := w) (B := B) (n := n2) (c := c2) (A := A2) (f := s1) (t := s2) (hABh.out k _ _ hrow9 hll) k0 k1 k2
            have hT4 : TxR wo w.heap.size (A4, m4, c4) (cutL l s1 s2) := (hT4w.below (hQ.out.below.mono hBh.out)).more hBh.out
            have i1 : (0 : Int) ≤ (k : Int) := by omega
            have i2 : (k : Int) < (i : Int) := by omega
            have hown := hR.out.own
            have hrl : rs.length = k := by
              have h1 := hR.out.len
              have h2 := hclen.out
              rw [List.length_take] at h1
              omega
            have hmax : Hid (rs.length + 1 ≤ maxLen ∧ (rs.length + 1) * 24 ≤ 140737488355328) := Lib.hid ⟨by unfold maxLen; omega, by omega⟩
            have hfar : 0 < m4 → ∀ q o, A4 = some ⟨q, o, none⟩ → v.ownBlock ≠ some q := fun hm q o e hq => by
              have := (hown.lt q hq).1
              obtain ⟨o2, e2⟩ := hap4 hm q o e
              obtain ⟨b2, o3, e3, hb3, _⟩ := hSt.2 (by have := hT4.2.2.len; have := hSt.len; unfold cutL at *; simp at *; omega)
              rw [e2] at e3
              injection e3 with e3
              injection e3 with e3 e4
              omega
            have hfin : Hid (∀ (v' : Value) (w1 w2 : World), Below wo.heap.size wo w1 → w1.heap.size = wo.heap.size → w2.ownsRow w.heap.size 22 1 v' (rs.length + 1) (rs.map slcV ++ [.slice A4 m4 c4]) → (w1.alloc (.cells #[.slice A4 m4 c4] 22)).grownBy w2 v.ownBlock → (v'.ownBlock = v.ownBlock ∨ v'.ownBlock = some (w1.alloc (.cells #[.slice A4 m4 c4] 22)).heap.size) →
                RowsO w.heap.size w2 v' (rs ++ [(A4, m4, c4)]) ((cutsT spans sides).take (k + 1)) ∧ PtIn w w2 (st, (f, t), spans) (some ⟨b', o', none⟩) i c1) := Lib.hid (fun v' w1 w2 hb1 hs1 h1 h2 h3 => by
              have hQ1 := hQ.out.up hb1
              refine ⟨?_, ?_⟩
              · rw [cutsT_step hs hll]
                exact (hR.out.up hb1).put (r := (A4, m4, c4)) ((hT4.below (B := w.heap.size) ⟨hb1.os, hb1.tape, hb1.output, hb1.size, fun q hq => hb1.block q (by have := hQ.out.below.size; omega)⟩).more hQ1.below.size) hfar h1 h2 h3
              · have hne : v.ownBlock ≠ some w.heap.size := fun e => by
                  obtain ⟨A5, c5, rfl, -, -, -⟩ := own_slice hown
                  rcases hown.2 with ⟨he, _⟩ | ⟨g, cap, cur, he, _, hg, _⟩
                  · rw [he] at e; cases e
                  · rw [he] at e
                    simp only [Value.ownBlock, Option.some.injEq] at e
                    subst e
                    rw [hQ.out.box] at hg
                    injection hg with hg
                    simp at hg
                refine ⟨(h2.block w.heap.size (by simp; have := hQ1.at_.2.2.2; omega) (fun e => hne e.symm)).trans ((Below.heap_alloc w1 _ _ hQ1.at_.2.2.2).trans hQ1.box), (hQ1.below.alloc hQ1.below.size _).grown h2 (by have := hQ1.below.size; simp; omega) (fun j e => (hown.lt j e).1)⟩)
            have hLw2 : Hid (∀ (j : Nat) (r : Slc) (ss : Txs), (rs ++ [(A4, m4, c4)])[j]? = some r → ((cutsT spans sides).take (k + 1))[j]? = some ss → TxR w B r ss) := Lib.hid (fun j r ss h1 h2 => by
              rw [cutsT_step hs hll] at h2
              have hl9 := hR.out.len
              rcases Nat.lt_or_ge j rs.length with hj | hj
              · rw [List.getElem?_append_left hj] at h1
                rw [List.getElem?_append_left (by omega)] at h2
                exact hLw.out j r ss h1 h2
              · rw [List.getElem?_append_right hj] at h1
                rw [List.getElem?_append_right (by omega), ← hl9] at h2
                have hj0 : j = rs.length := by
                  have := (List.getElem?_eq_some_iff.1 h1).1
                  simp at this
                  omega
                subst hj0
                simp at h1
                simp at h2
                subst h1
                subst h2
                exact hT4w)
            have hsz := hQ.out.below.size
            have hneC : v.ownBlock ≠ some w.heap.size := fun e => by
              rcases hown.2 with ⟨he, _⟩ | ⟨g, cap, cur, he, _, hg, _⟩
              · rw [he] at e; cases e
              · rw [he] at e
                simp only [Value.ownBlock, Option.some.injEq] at e
                subst e
                rw [hQ.out.box] at hg
                injection hg with hg
                simp at hg
            have hal : Hid (∀ q : Addr, q.block < wo.heap.size → (wo.alloc (.cells #[.slice A4 m4 c4] 22)).drew.cell? q = wo.cell? q) := Lib.hid (fun q hq => World.cell?_alloc_lt _ _ q hq)
            have hgr : Hid (∀ w2 : World, (wo.alloc (.cells #[.slice A4 m4 c4] 22)).drew.grownBy w2 v.ownBlock → ∀ q : Addr, q.block < wo.heap.size → (q.block < w.heap.size ∨ q.block = w.heap.size) → w2.cell? q = wo.cell? q) := Lib.hid (fun w2 hg q hq hqq => by
              refine (World.cell?_of_block (w := (wo.alloc (.cells #[.slice A4 m4 c4] 22)).drew) (hg.block q.block (by show q.block < (wo.alloc _).heap.size; simp; omega) (fun e => ?_))).trans (hal.out q hq)
              rcases hqq with h | h
              · have := (hown.lt q.block e.symm).1; omega
              · exact hneC (by rw [← h]; exact e.symm))
            clear hs hll hin k0 k1 k2 hT4 hT4w hrow9 hSt hap4 hfar hneC
            go_wp2
            go_region_held3 (fun wx : World => wx.cell? ⟨w.heap.size, 3, none⟩ = some (.slice (some ⟨b', o', none⟩) i c1) ∧ wx.cell? ⟨b', o' + k * 2, none⟩ = some (.int .i64 s1) ∧ wx.cell? ⟨b', o' + k * 2 + 1, none⟩ = some (.int .i64 s2) ∧ wx.cell? ⟨b, o + k, none⟩ = some (.slice A2 n2 c2))
              (first
                | exact ⟨d3, e1, e2, hc⟩
                | exact ⟨(hal.out ⟨w.heap.size, 3, none⟩ (by show w.heap.size < _; omega)).trans d3, (hal.out ⟨b', o' + k * 2, none⟩ (by show b' < _; omega)).trans e1, (hal.out ⟨b', o' + k * 2 + 1, none⟩ (by show b' < _; omega)).trans e2, (hal.out ⟨b, o + k, none⟩ (by show b < _; omega)).trans hc⟩
                | exact ⟨(hgr.out _ hg8 ⟨w.heap.size, 3, none⟩ (by show w.heap.size < _; omega) (.inr rfl)).trans d3, (hgr.out _ hg8 ⟨b', o' + k * 2, none⟩ (by show b' < _; omega) (.inl (by show b' < _; omega))).trans e1, (hgr.out _ hg8 ⟨b', o' + k * 2 + 1, none⟩ (by show b' < _; omega) (.inl (by show b' < _; omega))).trans e2, (hgr.out _ hg8 ⟨b, o + k, none⟩ (by show b < _; omega) (.inl (by show b < _; omega))).trans hc⟩)
              ((refine appendO_step rfl (.tmp 52) (.tmp 70) 40 rfl w.heap.size 22 i0 (.slice none 0 0) 1 24 Tryz.underlying40 hi hz0 hz1 hz2 rfl (by decide) v rs.length _ (by simp [Act.eval]) (hown.alloc _) ⟨wo.heap.size, 0, none⟩ 1 1 [.slice A4 m4 c4] (by simp [Act.eval]) rfl (cell_one_new _ _ _) (by simp [Value.oneCell']) hmax.out.1 hmax.out.2 (by simp; omega) ?_; intro v' w8 hown8 hg8 hloc8))
            go_wp2_with fail
            go_roundw
            case rel =>
              obtain ⟨f1, f2⟩ := hfin.out v' wo.drew w8 ⟨rfl, rfl, rfl, Nat.le_refl _, fun _ _ => rfl⟩ rfl hown8 hg8 hloc8
              exact ⟨k + 1, v', _, by omega, by go_num, rfl, Lib.hid f1, hLw2, Lib.hid f2⟩
            case measure => simp [intOf]; omega
          · obtain rfl : k = i := by omega
            have hsl := hslh.out
            go_wp2
            go_ret3
            have hown9 := hR.out.own
            obtain ⟨A5, c5, rfl, h1, h2, h3⟩ := hR.out.reads
            have hLk := hLw.out
            rw [List.take_of_length_le (by rw [hclen.out]; exact Nat.le_refl _)] at hLk
            rw [heh.out.1, heh.out.2.1, heh.out.2.2]
            rw [List.take_of_length_le (by rw [hclen.out]; exact Nat.le_refl _)] at h3
            exact ⟨A3, m3, c3, A5, _, c5, _, rfl, hT3h.out.below (hQ.out.below.mono hBh.out), h1, h2, h3, hown9, fun j r ss a b => (hLk j r ss a b).below (hQ.out.below.mono hBh.out), hQ.out.below⟩

theorem rParts_any (st : Bool) (f t : Int) (spans : List Sp) (A1 : Option Addr) (n1 c1 : Nat) (A0 : Option Addr) (n0 c0 : Nat) (base : Txs) (A : Option Addr) (n c : Nat) (rows : List Slc) (sides : List Txs) (w : World) (hn : n ≤ 100000) (hn1 : n1 ≤ maxLen) (hA1 : Spans w w.heap.size A1 n1 spans) (hA0 : TxR w w.heap.size (A0, n0, c0) base) (hA : RowsT w w.heap.size A n rows sides) :
    Calls Tryz.prog 25 #[.agg #[.bool st, .int .i64 f, .int .i64 t, .slice A1 n1 c1], .slice A0 n0 c0, .slice A n c] w fun e w' => PartsOut w w' e (partErr (st, (f, t), spans) base sides) (partBase (st, (f, t), spans) base sides) (partSides (st, (f, t), spans) base sides) :=
  (rParts_anyR w.heap.size st f t spans A1 n1 c1 A0 n0 c0 base A n c rows sides w hn hn1 hA1 (Nat.le_refl _) hA0 hA hA.2.2).mono fun e w' h => h.out (Nat.le_refl _)
end Go.Proofs.YtoopdgohdeddoaaGreatDoor
/- Proved here: contracts of the document's own answers of layer 14: Kind, Known, Does. -/
namespace Go.Proofs.YtoopdgohdeddoaaGreatDoor
open Go.RowKit
set_option linter.unusedVariables false
set_option maxRecDepth 100000

set_option maxHeartbeats 2000000 in
theorem rfKind_any (A0 : Option Addr) (n0 c0 : Nat) (mine : Txs) (A1 : Option Addr) (n1 c1 : Nat) (older : Txs) (A2 : Option Addr) (n2 c2 : Nat) (yours : Txs) (w : World)
    (h0 : TxR w w.heap.size (A0, n0, c0) mine) (h1 : TxR w w.heap.size (A1, n1, c1) older) (h2 : TxR w w.heap.size (A2, n2, c2) yours) :
    Calls Tryz.prog 27 #[.slice A0 n0 c0, .slice A1 n1 c1, .slice A2 n2 c2] w fun e w' => e = .returned (.int .i64 (kindF mine older yours : Nat)) ∧ Below w.heap.size w w' := by
  have hS : ∀ (r r' : Slc) (d d' : Txs) (W : World), Below w.heap.size w W → TxR w w.heap.size r d → TxR w w.heap.size r' d' → Calls Tryz.prog 13 #[.slice r.1 r.2.1 r.2.2, .slice r'.1 r'.2.1 r'.2.2] W fun e w' => e = .returned (.bool (decide (d = d'))) ∧ Below w.heap.size w w' := fun r r' d d' W hb k1 k2 => by
    refine (Same_any r.1 r'.1 r.2.1 r'.2.1 r.2.2 r'.2.2 W.heap.size W.heap.size d d' W (Nat.le_trans k1.1 k1.2.1) (Nat.le_trans k2.1 k2.2.1) (k1.up hb).2.2 (k2.up hb).2.2).mono ?_
    rintro e w' ⟨r, q, rfl⟩
    exact ⟨r, below_drewN hb q⟩
  obtain ⟨a, ha⟩ : ∃ a, decide (mine = older) = a := ⟨_, rfl⟩
  obtain ⟨b, hb⟩ : ∃ b, decide (yours = older) = b := ⟨_, rfl⟩
  obtain ⟨c, hc⟩ : ∃ c, decide (mine = yours) = c := ⟨_, rfl⟩
  have hA := Lib.hid (fun W hW => ha ▸ hS (A0, n0, c0) (A1, n1, c1) mine older W hW h0 h1)
  have hB := Lib.hid (fun W hW => hb ▸ hS (A2, n2, c2) (A1, n1, c1) yours older W hW h2 h1)
  have hC := Lib.hid (fun W hW => hc ▸ hS (A0, n0, c0) (A2, n2, c2) mine yours W hW h0 h2)
  have hK : Hid (kindF mine older yours = if a = true ∧ b = true then 0 else if b = true then 1 else if a = true then 2 else if c = true then 3 else 4) := Lib.hid (by
    unfold kindF
    rw [← ha, ← hb, ← hc]
    simp only [decide_eq_true_eq])
  have hb0 := Lib.hid (Below.refl w.heap.size w)
  have tok1 := trivial
  clear h0 h1 h2 hS ha hb hc
  cases a <;> cases b <;> cases c
  all_goals
    go_enter Tryz.func27, Tryz.ntmps27
    go_wp2_with (first
      | (go_at_call 13; have _t := tok1; refine (hA.out _ hb0.out).mono ?_; rintro e w1 ⟨rfl, q1⟩; have hB1 := Lib.hid q1; have tok2 := trivial; clear tok1 q1)
      | (go_at_call 13; have _t := tok2; refine (hB.out _ hB1.out).mono ?_; rintro e w2 ⟨rfl, q2⟩; have hB2 := Lib.hid q2; have tok3 := trivial; clear tok2 q2)
      | (go_at_call 13; have _t := tok3; refine (hC.out _ hB2.out).mono ?_; rintro e w3 ⟨rfl, q3⟩; have hB3 := Lib.hid q3; clear tok3 q3))
    go_ret
    exact ⟨ret_int (by rw [hK.out]; rfl), by first | exact hB3.out | exact hB2.out⟩

theorem known_eq (c : UInt8) : knownB c = true → c = 101 ∨ c = 120 ∨ c = 51 ∨ c = 69 ∨ c = 88 ∨ c = 65 := by
  unfold knownB
  simp only [Bool.or_eq_true, beq_iff_eq]
  rintro (((((h | h) | h) | h) | h) | h)
  · exact .inl h
  · exact .inr (.inl h)
  · exact .inr (.inr (.inl h))
  · exact .inr (.inr (.inr (.inl h)))
  · exact .inr (.inr (.inr (.inr (.inl h))))
  · exact .inr (.inr (.inr (.inr (.inr h))))
theorem known_not {c : UInt8} (h : knownB c = false) : ((c.toNat : Int) == 101) = false ∧ ((c.toNat : Int) == 120) = false ∧ ((c.toNat : Int) == 51) = false ∧ ((c.toNat : Int) == 69) = false ∧ ((c.toNat : Int) == 88) = false ∧ ((c.toNat : Int) == 65) = false := by
  unfold knownB at h
  simp only [Bool.or_eq_false_iff, beq_eq_false_iff_ne] at h
  obtain ⟨⟨⟨⟨⟨h1, h2⟩, h3⟩, h4⟩, h5⟩, h6⟩ := h
  have g : ∀ d : UInt8, c ≠ d → ((c.toNat : Int) == (d.toNat : Int)) = false := fun d hd => by
    rw [beq_eq_false_iff_ne]
    intro e
    exact hd (UInt8.toNat_inj.1 (Int.ofNat.inj e))
  exact ⟨g 101 h1, g 120 h2, g 51 h3, g 69 h4, g 88 h5, g 65 h6⟩
theorem rfKnown_any (c : UInt8) (w : World) : Calls Tryz.prog 23 #[.int .u8 (c.toNat : Int)] w fun e w' => e = .returned (.bool (knownB c)) ∧ w' = w := by
  cases hk : knownB c
  · obtain ⟨h1, h2, h3, h4, h5, h6⟩ := known_not hk
    clear hk
    go_enter Tryz.func23, Tryz.ntmps23
    go_wp2
    go_ret
    exact ⟨rfl, rfl⟩
  · rcases known_eq c hk with rfl | rfl | rfl | rfl | rfl | rfl
    all_goals
      clear hk
      go_enter Tryz.func23, Tryz.ntmps23
      go_wp2
      go_ret
      exact ⟨rfl, rfl⟩
set_option maxHeartbeats 4000000 in
theorem rfDoes_any (c : UInt8) (k : Int) (w : World) (hk64 : inR64 k) : Calls Tryz.prog 26 #[.int .u8 (c.toNat : Int), .int .i64 k] w fun e w' => e = .returned (.int .i64 (doesF c k : Nat)) ∧ w' = w := by
  have hK := Lib.hid (rfKnown_any c w)
  cases hk : knownB c
  · rw [hk] at hK
    have hd : doesF c k = 0 := does_unknown hk
    rw [hd]
    clear hk hd
    go_enter Tryz.func26, Tryz.ntmps26
    go_wp2_with (go_at_call 23; refine hK.out.mono ?_; rintro e w1 ⟨rfl, hww⟩; have hws := hww.symm; clear hww; subst hws)
    go_ret
    exact ⟨rfl, rfl⟩
  · rw [hk] at hK
    have hd : doesF c k = if k = 2 then (if c = 120 ∨ c = 88 then 0 else 1) else if k ≠ 4 then 0 else if c = 101 ∨ c = 120 then 1 else if c = 69 ∨ c = 88 then 2 else if c = 65 then 3 else 0 := by unfold doesF; rw [if_neg (by rw [hk]; simp)]
    rw [hd]
    clear hd
    have h3 : k = 2 ∨ k = 4 ∨ (k ≠ 2 ∧ k ≠ 4) := by omega
    rcases known_eq c hk with rfl | rfl | rfl | rfl | rfl | rfl
    all_goals
      clear hk
      rcases h3 with rfl | rfl | ⟨e2, e4⟩
      case' inr.inr =>
        have b2 : (k == 2) = false := by rw [beq_eq_false_iff_ne]; exact e2
        have b4 : (k == 4) = false := by rw [beq_eq_false_iff_ne]; exact e4
        rw [if_neg e2, if_pos e4]
      all_goals
        go_enter Tryz.func26, Tryz.ntmps26
        go_wp2_with (go_at_call 23; refine hK.out.mono ?_; rintro e w1 ⟨rfl, hww⟩; have hws := hww.symm; clear hww; subst hws)
        go_ret
        exact ⟨by first | rfl | (simp; done), rfl⟩
end Go.Proofs.YtoopdgohdeddoaaGreatDoor
/- Proved here: the contract of the document's own answer Open of layer 1 (for strings of at most maxLen bytes); for stages behind the first: NOT beside stage 1's Lines and Ref, which have the same names. -/
namespace Go.Proofs.YtoopdgohdeddoaaGreatDoor
open Go.RowKit
set_option linter.unusedVariables false

set_option maxHeartbeats 400000 in
theorem rOpen_any (A : Option Addr) (n c B : Nat) (ss : List (List UInt8)) (w : World) (hn : n ≤ maxLen) (hs : ∀ s ∈ ss, s.length ≤ maxLen) (hA : Strs w B A n ss) :
    Calls Tryz.prog 15 #[.slice A n c] w fun e w' => e = .returned (.bool (openB ss)) ∧ w = w' := by
  unfold maxLen at hn
  have hl := hA.len
  by_cases h0 : n = 0
  · subst h0
    go_enter Tryz.func15, Tryz.ntmps15
    go_wp2
    go_ret
    obtain rfl : ss = [] := List.eq_nil_of_length_eq_zero hl
    exact ⟨rfl, rfl⟩
  · obtain ⟨b, o, t, rfl, _, ht, hc⟩ := hA.at_ (k := n - 1) (by omega)
    have htl : t.length ≤ maxLen := hs t (List.mem_of_getElem? ht)
    unfold maxLen at htl
    have hres : Hid ((!endedB t) = openB ss) := Lib.hid <| by
      unfold openB; rw [List.getLast?_eq_getElem?, hl, ht]
    have h1 : (1 : Int) ≤ n := by omega
    have hd : (((n : Int)) == 0) = false := by simp; omega
    by_cases hz : (str t).size = 0
    · have hzz : ((((str t).size : Nat) : Int) == 0) = true := by rw [hz]; rfl
      have hz' := Lib.hid hz
      clear hz
      go_enter Tryz.func15, Tryz.ntmps15
      go_wp2
      go_ret
      refine ⟨ret_bool ?_, rfl⟩
      rw [← hres.out]
      have := hz'.out
      rw [str_size] at this
      rw [List.eq_nil_of_length_eq_zero this]; rfl
    · have hzz : ((((str t).size : Nat) : Int) == 0) = false := by rw [beq_eq_false_iff_ne]; omega
      have hp : 1 ≤ (str t).size := by omega
      have hsl : (str t).size ≤ 9223372036854775807 := by rw [str_size]; omega
      have hlb := Lib.hid (last_byte (str t) hp _ rfl (by omega))
      go_enter Tryz.func15, Tryz.ntmps15
      go_wp2
      go_ret
      refine ⟨ret_bool ?_, rfl⟩
      have h2 := hlb.out
      rw [str_data] at h2
      rw [← hres.out, h2]
      rfl
end Go.Proofs.YtoopdgohdeddoaaGreatDoor
