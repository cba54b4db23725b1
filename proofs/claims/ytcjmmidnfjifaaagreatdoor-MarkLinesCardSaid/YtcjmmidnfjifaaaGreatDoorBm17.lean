/- Proved here: texts joined: ZlTrim. -/
import Derived.Test.YtcjmmidnfjifaaaGreatDoorBm14
import Derived.Test.YtcjmmidnfjifaaaGreatDoorBm16
import Derived.Deep.RegionHeld3
import Derived.RangeFuncBox
/- Proved here: the contract of the document's own answer of layer 10: Trim. -/
namespace Go.Proofs.YtcjmmidnfjifaaaGreatDoor
open Go.RowKit
set_option linter.unusedVariables false
set_option maxRecDepth 100000

section
variable {w W w2 : World} {lo : Nat} {r : Slc} {v : PcV} {p : Pc} {ss : Txs}
/-- The blocks that a caller has made, and a call must not share. -/
def FLo (lo : Nat) (w : World) (k : Nat) : Prop := lo ≤ k ∧ k < w.heap.size
theorem cell_lo (hlo : lo ≤ w.heap.size) (hW : Below w.heap.size w W) (hb : But (FLo lo w) W w2) : (∀ q : Addr, q.block < lo → w2.cell? q = w.cell? q) ∧ lo ≤ w2.heap.size := by
  have h1 := hW.size
  have h2 := hb.size
  exact ⟨fun q hq => (World.cell?_of_block (hb.block q.block (by omega) (fun h => by unfold FLo at h; omega))).trans (hW.cell (by omega)), by omega⟩
theorem TxR.loF (h : TxR w lo r ss) (hlo : lo ≤ w.heap.size) (hW : Below w.heap.size w W) (hb : But (FLo lo w) W w2) : TxR w2 w2.heap.size r ss := (h.keep (cell_lo hlo hW hb).1).more (cell_lo hlo hW hb).2
theorem PcR.loF (h : PcR w lo v p) (hlo : lo ≤ w.heap.size) (hW : Below w.heap.size w W) (hb : But (FLo lo w) W w2) : PcR w2 w2.heap.size v p := (h.keep (cell_lo hlo hW hb).1).more (cell_lo hlo hW hb).2
end
/-- Texts that were there, by a row of the call's own. -/
def ZRow (w : World) (lo Bz : Nat) (wr : World) (v : Value) (rs : List Slc) (xs : List Txs) : Prop :=
  wr.ownsRow Bz 25 1 v rs.length (rs.map slcV) ∧ rs.length = xs.length ∧ ∀ (i : Nat) (r : Slc) (d : Txs), rs[i]? = some r → xs[i]? = some d → TxR w lo r d
section
variable {w wr w2 : World} {lo Bz : Nat} {v v' : Value} {rs : List Slc} {xs : List Txs} {r : Slc} {d : Txs}
theorem ZRow.start (w : World) (lo Bz : Nat) (wr : World) : ZRow w lo Bz wr (.slice none 0 0) [] [] := ⟨World.ownsRow_nil _ _ _ _, rfl, fun i r d h => by simp at h⟩
theorem ZRow.put (h : ZRow w lo Bz wr v rs xs) (hown : w2.ownsRow Bz 25 1 v' (rs.length + 1) (rs.map slcV ++ [slcV r])) (hT : TxR w lo r d) : ZRow w lo Bz w2 v' (rs ++ [r]) (xs ++ [d]) := by
  refine ⟨by rw [List.length_append, List.map_append]; exact hown, by simp [h.2.1], fun i r' d' a b => ?_⟩
  rcases Nat.lt_or_ge i rs.length with hi | hi
  · rw [List.getElem?_append_left hi] at a
    rw [List.getElem?_append_left (by rw [← h.2.1]; exact hi)] at b
    exact h.2.2 i r' d' a b
  · rw [List.getElem?_append_right hi] at a
    rw [List.getElem?_append_right (by rw [← h.2.1]; exact hi), ← h.2.1] at b
    match hq : i - rs.length with
    | 0 => rw [hq] at a b; simp at a b; subst a; subst b; exact hT
    | j + 1 => rw [hq] at a; simp at a
theorem ZRow.rows (h : ZRow w lo Bz wr v rs xs) (hlo : lo ≤ w.heap.size) (hb : Below w.heap.size w wr) : ∃ A c, v = .slice A rs.length c ∧ rs.length ≤ c ∧ c ≤ maxLen ∧ RowsT wr wr.heap.size A rs.length rs xs := by
  obtain ⟨A, c, e, h1, h2, h3⟩ := own_slice h.1
  exact ⟨A, c, e, h1, h2, h3, h.2.1, fun k r ss a b => ((h.2.2 k r ss a b).more hlo).up hb⟩
/-- The rows stand, whatever becomes of the blocks of FLo. -/
theorem ZRow.rowsF {A : Option Addr} {n c : Nat} (h : ZRow w lo Bz wr v rs xs) (hv : v = .slice A n c) (hlo : lo ≤ w.heap.size) (hB : w.heap.size ≤ Bz) (hb : Below w.heap.size w wr) (hF : But (FLo lo w) wr w2) : SlcR w2 w2.heap.size (A, n, c) xs := by
  have hown := ownsRow_kept h.1 (w' := w2) fun k e => hF.block k (h.1.lt k e).2 (fun hf => by unfold FLo at hf; have := (h.1.lt k e).1; omega)
  obtain ⟨A', c', e, h1, h2, h3⟩ := own_slice hown
  rw [hv] at e
  injection e with e1 e2 e3
  subst e1
  subst e2
  subst e3
  exact ⟨h1, h2, rs, h3, h.2.1, fun k r ss a b => (h.2.2 k r ss a b).loF hlo hb hF⟩
end

/-- A conflict's sides are neither many nor long. -/
def smallP (p : Pc) : Prop := p.2.1.length ≤ 5000 ∧ p.2.2.2.length ≤ 1000 ∧ (∀ d ∈ p.2.2.2, d.length ≤ 5000) ∧ p.2.2.1.length ≤ 10000

set_option maxHeartbeats 2000000 in
/-- A piece that stays: a text, or a conflict without sides. -/
theorem rTrim_stay (lo : Nat) (v : PcV) (p : Pc) (w : World) (hlo : lo ≤ w.heap.size) (hsm : smallP p) (hP : PcR w lo v p) (h : p.1 = false ∨ p.2.2.2 = []) :
    Calls Tryz.prog 34 #[.agg #[.bool p.1, .slice v.1.1 v.1.2.1 v.1.2.2, .slice v.2.1.1 v.2.1.2.1 v.2.1.2.2, .slice v.2.2.1 v.2.2.2.1 v.2.2.2.2]] w fun e w' => PcsLo lo w w' e (trimD p) := by
  have hd : trimD p = normal [p] := by
    rcases h with h | h
    · exact trimD_text h
    · exact trimD_bare h
  rw [hd]
  obtain ⟨cf, t, bs, ss⟩ := p
  obtain ⟨⟨A1, n1, c1⟩, ⟨A2, n2, c2⟩, ⟨A3, n3, c3⟩⟩ := v
  have hn3 : ss.length = n3 := by obtain ⟨_, _, _, h4⟩ := hP.2.2; exact h4.len
  have hs1 : t.length ≤ 5000 := hsm.1
  have hN : Hid (∀ W : World, Below w.heap.size w W → W.heap[w.heap.size + 1]? = some (pcObj cf ((A1, n1, c1), (A2, n2, c2), (A3, n3, c3))) → Calls Tryz.prog 35 #[.slice (some ⟨w.heap.size + 1, 0, none⟩) 1 1] W fun e w' => PcsLo lo w w' e (normal [(cf, t, bs, ss)])) := Lib.hid (fun W hW hg => by
    refine (rNormalF_any (FLo lo w) _ 1 1 _ [(cf, t, bs, ss)] W (by omega) (by simp [sumT]; omega) (pcs_one (p := (cf, t, bs, ss)) hg ((hP.more hlo).up hW)) (fun k hk => Nat.lt_of_lt_of_le hk.2 hW.size) (fun w2 hb j v p a b _ => ?_)).mono ?_
    · match j, a, b with
      | 0, a, b => simp at a b; subst a; subst b; exact hP.loF hlo hW hb
      | j + 1, a, b => simp at a
    · rintro e w' ⟨A, n, c, vs, h1, h2, h3, h4, h5⟩
      exact ⟨A, n, c, vs, h1, h2, h3, h4, hW.trans (h5.mono hW.size)⟩)
  obtain ⟨hB2, hk2⟩ : Below w.heap.size w ((w.alloc (pcObj cf ((A1, n1, c1), (A2, n2, c2), (A3, n3, c3)))).alloc (pcObj cf ((A1, n1, c1), (A2, n2, c2), (A3, n3, c3)))) ∧ ((w.alloc (pcObj cf ((A1, n1, c1), (A2, n2, c2), (A3, n3, c3)))).alloc (pcObj cf ((A1, n1, c1), (A2, n2, c2), (A3, n3, c3)))).heap[w.heap.size + 1]? = some (pcObj cf ((A1, n1, c1), (A2, n2, c2), (A3, n3, c3))) := ⟨below_alloc (below_alloc (Below.refl _ _) _) _, (two_a w _ _).2⟩
  have hh := Lib.hid (And.intro hB2 hk2)
  dsimp only at h ⊢
  clear hP hsm hd hs1 hB2 hk2 hlo
  cases cf
  · clear h
    go_enter Tryz.func34, Tryz.ntmps34
    go_wp2_with (go_at_call 35; refine (hN.out _ hh.out.1 hh.out.2).mono ?_; rintro e w1 ⟨A5, n5, c5, vs5, rfl, q1, q2, q3, q4⟩; have hq := Lib.hid (And.intro q1 (And.intro q2 (And.intro q3 q4))); clear q1 q2 q3 q4)
    go_ret
    exact ⟨A5, n5, c5, vs5, rfl, hq.out⟩
  · have hs : n3 = 0 := by
      rcases h with h | h
      · cases h
      · rw [h] at hn3; exact hn3.symm
    subst hs
    clear h hn3
    go_enter Tryz.func34, Tryz.ntmps34
    go_wp2_with (go_at_call 35; refine (hN.out _ hh.out.1 hh.out.2).mono ?_; rintro e w1 ⟨A5, n5, c5, vs5, rfl, q1, q2, q3, q4⟩; have hq := Lib.hid (And.intro q1 (And.intro q2 (And.intro q3 q4))); clear q1 q2 q3 q4)
    go_ret
    exact ⟨A5, n5, c5, vs5, rfl, hq.out⟩
end Go.Proofs.YtcjmmidnfjifaaaGreatDoor
