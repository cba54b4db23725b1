/- Proved here: texts joined: MgRef, ChPure. -/
import Derived.Test.YtoephlkfejcadaaGreatBf01
import Derived.Test.YtoephlkfejcadaaGreatBf04
import Derived.Test.YtoephlkfejcadaaGreatBf19
import Derived.Test.YtoephlkfejcadaaGreatBf21
import Derived.Test.YtoephlkfejcadaaGreatBf22
import Derived.Test.YtoephlkfejcadaaGreatBf23
import Derived.Test.YtoephlkfejcadaaGreatBf24
/- Proved here: the contract of the document's own answer of layer 8: Merge. -/
namespace Go.Proofs.YtoephlkfejcadaaGreat
open Go.RowKit
set_option linter.unusedVariables false
set_option maxRecDepth 100000

theorem smallR_M {base : Txs} {sides : List Txs} (h : smallR base sides) : smallM base sides := ⟨h.1, fun d hd => ⟨Nat.le_trans (h.2 d hd).1 (by decide), (h.2 d hd).2⟩⟩
theorem mergesR_bad {base : Txs} {sides : List Txs} {fav : Int} {un : Bool} {w : World} {z : Int} (hz : errM base sides fav un = z) (h0 : z ≠ 0) {w' : World} (hb : Below w.heap.size w w') : MergeOut w w' (.returned (.tuple #[.slice none 0 0, .int .i64 z])) base sides fav un :=
  ⟨z, none, 0, 0, [], [], rfl, Nat.le_refl _, Nat.zero_le _, Pcs.nil _ _ _, ⟨hz.symm, fun _ => rfl, fun h => absurd h h0⟩, hb⟩

/-- Rows that Parts has made stand, but for a block that was there. -/
theorem parts_stand {F : Nat → Prop} {B n c : Nat} {wo w2 w3 : World} {A : Option Addr} {rows : List Slc} {pss : List Txs} (hown : w2.ownsRow wo.heap.size 22 1 (.slice A n c) n (rows.map slcV)) (hl : rows.length = pss.length)
    (hlow : ∀ (k : Nat) (r : Slc) (ss : Txs), rows[k]? = some r → pss[k]? = some ss → TxR w2 B r ss) (hB : B ≤ w2.heap.size) (hF : ∀ k, F k → B ≤ k ∧ k < wo.heap.size) (hb : But F w2 w3) : RowsT w3 w3.heap.size A n rows pss := by
  have h1 := ownsRow_kept hown (w' := w3) fun k e => hb.block k (hown.lt k e).2 (fun hf => by have := (hF k hf).2; have := (hown.lt k e).1; omega)
  obtain ⟨A', c', e, r1, r2, r3⟩ := own_slice h1
  injection e with e1 e2 e3
  subst e1
  exact ⟨r3, hl, fun k r ss a b => (hlow k r ss a b).butB hB hb fun k hf => (hF k hf).1⟩

set_option maxHeartbeats 1000000 in
/-- What forbids it. -/
theorem rMerge_bad (A0 : Option Addr) (n0 c0 : Nat) (base : Txs) (A : Option Addr) (n c : Nat) (rows : List Slc) (sides : List Txs) (fav : Int) (un : Bool) (w : World) (hnc : n ≤ c) (hcm : c ≤ maxLen) (hsm : smallR base sides) (hA0 : TxR w w.heap.size (A0, n0, c0) base) (hA : RowsT w w.heap.size A n rows sides)
    (hz : wrongN base sides ≠ 0) :
    Calls Tryz.prog 24 #[.slice A0 n0 c0, .slice A n c, .agg #[.int .i64 fav, .bool un]] w fun e w' => MergeOut w w' e base sides fav un := by
  obtain ⟨W0, hW0⟩ : ∃ W0, W0 = w.alloc (.cells #[.int .i64 fav, .bool un] 36) := ⟨_, rfl⟩
  have hb0 : Below w.heap.size w W0 := by rw [hW0]; exact (Below.refl _ _).alloc (Nat.le_refl _) _
  have hC := Lib.hid (rChunks_any A0 n0 c0 base A n c rows sides W0 hnc hcm hsm (hA0.up hb0) (hA.up hb0))
  obtain ⟨z, hz'⟩ : ∃ z, wrongN base sides = z := ⟨_, rfl⟩
  rw [hz'] at hz
  have he : errM base sides fav un = z := by
    unfold errM
    rw [if_pos (by rw [hz']; exact hz), hz']
  have hfin := Lib.hid (fun w' hb => mergesR_bad (w := w) (w' := w') he hz hb)
  have hz0 : (z != 0) = true := by simpa using hz
  have hzh := Lib.hid hz'
  have hb0h := Lib.hid hb0
  subst hW0
  clear hz hz' hA hA0 he hsm hb0
  go_enter Tryz.func24, Tryz.ntmps24
  go_wp2_with (go_at_call 23; refine hC.out.mono ?_; rintro e w1 ⟨er, A1, n1, c1, cs, rfl, q1, q2, q3, q4, q5⟩; have her : er = z := (q4.1.trans hzh.out); subst her; have hb1 := Lib.hid q5; clear q1 q2 q3 q4 q5)
  go_ret2
  exact hfin.out _ (hb0h.out.trans (hb1.out.mono hb0h.out.size))

set_option maxHeartbeats 2000000 in
/-- A how that may not be. -/
theorem rMerge_how (A0 : Option Addr) (n0 c0 : Nat) (base : Txs) (A : Option Addr) (n c : Nat) (rows : List Slc) (sides : List Txs) (fav : Int) (un : Bool) (w : World) (hnc : n ≤ c) (hcm : c ≤ maxLen) (hsm : smallR base sides) (hA0 : TxR w w.heap.size (A0, n0, c0) base) (hA : RowsT w w.heap.size A n rows sides)
    (hz : wrongN base sides = 0) (hh : fav < 0 ∨ (n : Int) < fav ∨ (fav ≠ 0 ∧ un = true)) :
    Calls Tryz.prog 24 #[.slice A0 n0 c0, .slice A n c, .agg #[.int .i64 fav, .bool un]] w fun e w' => MergeOut w w' e base sides fav un := by
  obtain ⟨W0, hW0⟩ : ∃ W0, W0 = w.alloc (.cells #[.int .i64 fav, .bool un] 36) := ⟨_, rfl⟩
  have hb0 : Below w.heap.size w W0 := by rw [hW0]; exact (Below.refl _ _).alloc (Nat.le_refl _) _
  have k0 : W0.heap[w.heap.size]? = some (.cells #[.int .i64 fav, .bool un] 36 (0, 0)) := by rw [hW0]; exact Go.Deep.blk_alloc_new w _
  have hC := Lib.hid (rChunks_any A0 n0 c0 base A n c rows sides W0 hnc hcm hsm (hA0.up hb0) (hA.up hb0))
  have hl := hA.len
  have he : errM base sides fav un = 1 := by
    unfold errM
    rw [if_neg (by rw [hz]; simp), if_pos (by rw [hl]; exact hh)]
  have hfin := Lib.hid (fun w' hb => mergesR_bad (w := w) (w' := w') he (by decide) hb)
  have hzh := Lib.hid hz
  have hb0h := Lib.hid hb0
  have hk0h := Lib.hid k0
  have hlt : Hid (w.heap.size < W0.heap.size) := Lib.hid (Array.getElem?_eq_some_iff.1 k0).1
  subst hW0
  clear hz hA hA0 he hsm hb0 k0 hl
  by_cases h1 : fav < 0
  · have e1 : decide (fav < 0) = true := by simpa using h1
    clear hh h1
    go_enter Tryz.func24, Tryz.ntmps24
    go_wp2_with (go_at_call 23; refine hC.out.mono ?_; rintro e w1 ⟨er, A1, n1, c1, cs, rfl, q1, q2, q3, q4, q5⟩; have her : er = 0 := (q4.1.trans hzh.out); subst her; have hb1 := Lib.hid q5; have g1 := (q5.block _ hlt.out).trans hk0h.out; have x0 : w1.cell? ⟨w.heap.size, 0, none⟩ = some (.int .i64 fav) := (by rw [cells_of g1]; rfl); have x1 : w1.cell? ⟨w.heap.size, 1, none⟩ = some (.bool un) := (by rw [cells_of g1]; rfl); clear q1 q2 q3 q4 q5 g1)
    go_ret2
    exact hfin.out _ (hb0h.out.trans (hb1.out.mono hb0h.out.size))
  · by_cases h2 : (n : Int) < fav
    · have e1 : decide (fav < 0) = false := by simpa using h1
      have e2 : decide ((n : Int) < fav) = true := by simpa using h2
      clear hh h1 h2
      go_enter Tryz.func24, Tryz.ntmps24
      go_wp2_with (go_at_call 23; refine hC.out.mono ?_; rintro e w1 ⟨er, A1, n1, c1, cs, rfl, q1, q2, q3, q4, q5⟩; have her : er = 0 := (q4.1.trans hzh.out); subst her; have hb1 := Lib.hid q5; have g1 := (q5.block _ hlt.out).trans hk0h.out; have x0 : w1.cell? ⟨w.heap.size, 0, none⟩ = some (.int .i64 fav) := (by rw [cells_of g1]; rfl); have x1 : w1.cell? ⟨w.heap.size, 1, none⟩ = some (.bool un) := (by rw [cells_of g1]; rfl); clear q1 q2 q3 q4 q5 g1)
      go_ret2
      exact hfin.out _ (hb0h.out.trans (hb1.out.mono hb0h.out.size))
    · have h3 : fav ≠ 0 ∧ un = true := by
        rcases hh with h | h | h
        · exact absurd h h1
        · exact absurd h h2
        · exact h
      obtain ⟨h3, rfl⟩ := h3
      have e1 : decide (fav < 0) = false := by simpa using h1
      have e2 : decide ((n : Int) < fav) = false := by simpa using h2
      have e3 : (fav != 0) = true := by simpa using h3
      clear hh h1 h2 h3
      go_enter Tryz.func24, Tryz.ntmps24
      go_wp2_with (go_at_call 23; refine hC.out.mono ?_; rintro e w1 ⟨er, A1, n1, c1, cs, rfl, q1, q2, q3, q4, q5⟩; have her : er = 0 := (q4.1.trans hzh.out); subst her; have hb1 := Lib.hid q5; have g1 := (q5.block _ hlt.out).trans hk0h.out; have x0 : w1.cell? ⟨w.heap.size, 0, none⟩ = some (.int .i64 fav) := (by rw [cells_of g1]; rfl); have x1 : w1.cell? ⟨w.heap.size, 1, none⟩ = some (.bool true) := (by rw [cells_of g1]; rfl); clear q1 q2 q3 q4 q5 g1)
      go_ret2
      exact hfin.out _ (hb0h.out.trans (hb1.out.mono hb0h.out.size))

set_option maxHeartbeats 8000000 in
theorem rMerge_good (A0 : Option Addr) (n0 c0 : Nat) (base : Txs) (A : Option Addr) (n c : Nat) (rows : List Slc) (sides : List Txs) (fav : Int) (un : Bool) (w : World) (hnc : n ≤ c) (hcm : c ≤ maxLen) (hfav : inR64 fav) (hsm : smallR base sides) (hA0 : TxR w w.heap.size (A0, n0, c0) base) (hA : RowsT w w.heap.size A n rows sides)
    (hz : wrongN base sides = 0) (hh0 : 0 ≤ fav) (hh1 : fav ≤ n) (hh2 : fav = 0 ∨ un = false) :
    Calls Tryz.prog 24 #[.slice A0 n0 c0, .slice A n c, .agg #[.int .i64 fav, .bool un]] w fun e w' => MergeOut w w' e base sides fav un := by
  obtain ⟨W0, hW0⟩ : ∃ W0, W0 = w.alloc (.cells #[.int .i64 fav, .bool un] 36) := ⟨_, rfl⟩
  have hb0 : Below w.heap.size w W0 := by rw [hW0]; exact (Below.refl _ _).alloc (Nat.le_refl _) _
  have k0 : W0.heap[w.heap.size]? = some (.cells #[.int .i64 fav, .bool un] 36 (0, 0)) := by rw [hW0]; exact Go.Deep.blk_alloc_new w _
  have hC := Lib.hid (rChunks_any A0 n0 c0 base A n c rows sides W0 hnc hcm hsm (hA0.up hb0) (hA.up hb0))
  have hl := hA.len
  have hsM := smallR_M hsm
  obtain ⟨v1, v2, v3, v4, v5, v6⟩ := wrong_none hz
  have hn16 : n ≤ 16 := by omega
  have hzh := Lib.hid hz
  have hb0h := Lib.hid hb0
  have hk0h := Lib.hid k0
  have hlt : Hid (w.heap.size < W0.heap.size) := Lib.hid (Array.getElem?_eq_some_iff.1 k0).1
  have hA0h := Lib.hid hA0
  have hAh := Lib.hid hA
  have hsMh := Lib.hid hsM
  have hlh := Lib.hid hl
  obtain ⟨i0, hi, hzz⟩ := Option.map_eq_some_iff.1 infoPc
  simp only [Prod.mk.injEq] at hzz
  obtain ⟨hz0, hz1, hz2⟩ := hzz
  have hfin : Hid (∀ (ms : List (List Int)) (cs : List Ck) (A8 : Option Addr) (n8 c8 : Nat) (vs : List PcV) (V : World), MsOf base sides ms → IsCut base.length (szs sides) ms cs → n8 ≤ c8 → c8 ≤ maxLen → Pcs V V.heap.size A8 n8 vs (mergeD base sides fav un cs) → Below w.heap.size w V → MergeOut w V (.returned (.tuple #[.slice A8 n8 c8, .int .i64 0])) base sides fav un) :=
    Lib.hid fun ms cs A8 n8 c8 vs V hMs hCut r1 r2 r3 r4 => by
      refine ⟨0, A8, n8, c8, vs, _, rfl, r1, r2, r3, ⟨?_, fun h => absurd rfl h, fun _ => ⟨ms, cs, hMs, hCut, rfl⟩⟩, r4⟩
      unfold errM
      rw [if_neg (by rw [hz]; simp), if_neg]
      rintro (e | e | ⟨e1, e2⟩)
      · omega
      · omega
      · rcases hh2 with m3 | m3
        · exact e1 m3
        · rw [m3] at e2; cases e2
  have hfew : Hid (∀ (ms : List (List Int)) (cs : List Ck), IsCut base.length (szs sides) ms cs → cs.length ≤ 201) := Lib.hid fun ms cs hCut => by
    have h1 := cov_few hCut.1
    rw [if_neg (by simp)] at h1
    have h2 := (hsM.2 base (List.mem_cons_self ..)).1
    omega
  have hsum : Hid (∀ cs : List Ck, cs.length ≤ 201 → sumT (cs.map (pcOf base sides fav un)) ≤ 1000000) := Lib.hid fun cs h => merge_sumM hsM v2 fav un (by omega)
  have e1 : decide (fav < 0) = false := by simp; omega
  have e2 : decide ((n : Int) < fav) = false := by simp; omega
  have hbr : (fav != 0) = false ∨ ((fav != 0) = true ∧ un = false) := by
    by_cases h : fav = 0
    · exact .inl (by simpa using h)
    · exact .inr ⟨by simpa using h, hh2.resolve_left h⟩
  subst hW0
  clear hz hA hA0 hsm hb0 k0 hl hsM v1 v2 v3 v4 v5 v6 hh0 hh1 hh2
  go_enter Tryz.func24, Tryz.ntmps24
  go_upto_region 4 with (go_at_call 23; refine hC.out.mono ?_; rintro e w1 ⟨er, A1, n1, c1, cs, rfl, q1, q2, q3, q4, q5⟩; have her : er = 0 := (q4.1.trans hzh.out); subst her; have hb1 := Lib.hid q5; have hcs := Lib.hid (And.intro q1 (And.intro q2 (And.intro q3 q4))); have g1 := (q5.block _ hlt.out).trans hk0h.out; have x0 : w1.cell? ⟨w.heap.size, 0, none⟩ = some (.int .i64 fav) := (by rw [cells_of g1]; rfl); have x1 : w1.cell? ⟨w.heap.size, 1, none⟩ = some (.bool un) := (by rw [cells_of g1]; rfl); have hlt1 := Nat.lt_of_lt_of_le hlt.out q5.size; clear q1 q2 q3 q4 q5 g1)
  have hbw1 := Lib.hid (hb0h.out.trans (hb1.out.mono hb0h.out.size))
  obtain ⟨ms, hMs, hCut⟩ := hcs.out.2.2.2.2.2 rfl
  have hLd := Lib.hid (hMs.laid hCut)
  have hn1 : cs.length = n1 := hcs.out.2.2.1.1
  have hnc1 : n1 ≤ 201 := by have := hfew.out ms cs hCut; omega
  have hMC := Lib.hid (And.intro hMs hCut)
  have hn1h := Lib.hid hn1
  have hB0 := Lib.hid ((hA0h.out.below hbw1.out).more hbw1.out.size)
  have hR0 := Lib.hid ((hAh.out.below hbw1.out).more hbw1.out.size)
  have x0h := Lib.hid x0
  have x1h := Lib.hid x1
  clear hMs hCut hC hn1 hfew
  rcases hbr with hbr | ⟨hbr, hun⟩
  · go_upto_region 6 with fail
    clear x0 x1 e1 e2 hbr
    go_wp2
    go_loopw [10, 11, 12, 13, 14] (fun s10 s11 _ _ _ wr => ∃ (k : Nat) (v : Value) (qs : List (PcV × Pc)), k ≤ n1 ∧ s11 = .int .i64 k ∧ v = s10 ∧ Hid (PcsO w1 wr v qs) ∧ Hid (qs.map (fun q => q.2) = (cs.take k).map (pcOf base sides fav un))) (fun _ s11 _ _ _ _ => n1 - (intOf s11).toNat)
    case atStart => exact ⟨0, _, [], Nat.zero_le _, rfl, rfl, Lib.hid (PcsO.start w1), Lib.hid rfl⟩
    case round =>
      obtain ⟨k, v, qs, hk, rfl, rfl, hP, hQ⟩ := hrel
      obtain ⟨wo, rfl⟩ : ∃ wo : World, wo = wr := ⟨_, rfl⟩
      have hbo := hP.out.below
      have hsz1 := hbo.size
      have x0 := (hbo.cell (p := ⟨w.heap.size, 0, none⟩) hlt1).trans x0h.out
      have x1 := (hbo.cell (p := ⟨w.heap.size, 1, none⟩) hlt1).trans x1h.out
      by_cases hlt2 : k < n1
      · obtain ⟨b, o, ck, A5, n5, c5, rfl, hb5, hck, y0, y1, y2, y3, hn5, hc5, hS⟩ := (hcs.out.2.2.1.keep (w' := wo) (fun p hp => hbo.cell hp)).at_ (k := k) hlt2
        obtain ⟨st, ⟨f, t⟩, spans⟩ := ck
        dsimp only at y0 y1 y2 hS
        have hi1 : (0 : Int) ≤ (k : Int) := by omega
        have hi2 : (k : Int) < (n1 : Int) := by omega
        obtain ⟨l1, l2, l3⟩ := laid_parts hLd.out (List.mem_of_getElem? hck)
        have hPt := rParts_anyR w1.heap.size st f t spans A5 n5 c5 A0 n0 c0 base A n c rows sides wo (by omega) (Nat.le_trans hn5 hc5) (hS.more hsz1) hsz1 (hB0.out.below hbo) ((hR0.out.below hbo).more hsz1) (fun j r ss a b => (hR0.out.2.2 j r ss a b).below hbo)
        rw [l1, l2, l3] at hPt
        obtain ⟨Bt, hBt⟩ : ∃ Bt, cutB (st, (f, t), spans) base = Bt := ⟨_, rfl⟩
        obtain ⟨Ss, hSs⟩ : ∃ Ss, cutsP (st, (f, t), spans) sides = Ss := ⟨_, rfl⟩
        have hT9 := Lib.hid (parts_T hsMh.out (st, (f, t), spans))
        have hS100 := Lib.hid (show (cutsP (st, (f, t), spans) sides).length ≤ 100 from by have h1 := cutsP_le (st, (f, t), spans) sides; have h2 := hlh.out; omega)
        rw [hBt, hSs] at hPt hT9
        rw [hSs] at hS100
        have hpc : Hid (pcOf base sides fav un (st, (f, t), spans) = if st = true then tPc Bt else pieceD Bt Ss fav un) := Lib.hid (by unfold pcOf; rw [hBt, hSs])
        have hnx := Lib.hid (show (cs.take (k + 1)).map (pcOf base sides fav un) = (cs.take k).map (pcOf base sides fav un) ++ [pcOf base sides fav un (st, (f, t), spans)] by rw [take_at hck, List.map_append]; rfl)
        have hPth := Lib.hid hPt
        have hql : qs.length = k := by
          have e := congrArg List.length hQ.out
          rw [List.length_map, List.length_map, List.length_take] at e
          have := hn1h.out
          omega
        have hmax : Hid (qs.length + 1 ≤ maxLen ∧ (qs.length + 1) * 80 ≤ 140737488355328) := Lib.hid ⟨by unfold maxLen; omega, by omega⟩
        have hblt : b < wo.heap.size := by omega
        have hwl : w.heap.size < wo.heap.size := by omega
        have y0h := Lib.hid y0
        clear hPt hS hck hBt hSs l1 l2 l3 hql
        cases st
        · have hnx2 : Hid ((cs.take (k + 1)).map (pcOf base sides fav un) = (cs.take k).map (pcOf base sides fav un) ++ [pieceD Bt Ss fav un]) := Lib.hid (by rw [hnx.out, hpc.out]; rfl)
          clear hnx hpc
          go_wp2_with (first
            | (go_at_call 47; refine hPth.out.mono ?_; rintro e w2 ⟨A6, n6, c6, A7, n7, c7, rows7, rfl, hTb, r1, r2, hR7, hown7, hlow7, hb2⟩; have z0 := (hb2.cell (p := ⟨b, o + k * 4, none⟩) hblt).trans y0; have z1 := (hb2.cell (p := ⟨w.heap.size, 0, none⟩) hwl).trans x0; have z2 := (hb2.cell (p := ⟨w.heap.size, 1, none⟩) hwl).trans x1; have hP2 := Lib.hid (hP.out.up hb2); have hlen7 := hR7.len; have hFk : ∀ j, v.ownBlock = some j → w1.heap.size ≤ j ∧ j < wo.heap.size := (fun j e => hP.out.own.lt j e); have hw2s := hb2.size; have hPi := Lib.hid (rPieceF_any (fun j => v.ownBlock = some j) w1.heap.size A6 n6 c6 Bt A7 n7 c7 rows7 Ss fav un w2 r1 r2 (by have := hS100.out; omega) hfav hT9.out (by omega) (fun j e => ⟨(hFk j e).1, by have := (hFk j e).2; omega⟩) hTb hR7 hlow7 (fun w3 h3 => parts_stand hown7 hR7.2.1 hlow7 (by omega) hFk h3)); have hb2h := Lib.hid hb2; clear hTb hR7 hown7 hlow7 hlen7 hb2 hFk)
            | (go_at_call 48; refine hPi.out.mono ?_; rintro e w3 ⟨pv, rfl, hst3, hb3⟩; have hP3 := Lib.hid (hP2.out.up hb3); have hown := hP3.out.own; have hput := Lib.hid (fun v' w4 h1 h2 h3 => hP3.out.put (r := pv) (p := pieceD Bt Ss fav un) (v' := v') (w2 := w4) (o := .cells #[.bool (pieceD Bt Ss fav un).1, .slice pv.1.1 pv.1.2.1 pv.1.2.2, .slice pv.2.1.1 pv.2.1.2.1 pv.2.1.2.2, .slice pv.2.2.1 pv.2.2.2.1 pv.2.2.2.2] 44) hst3 h1 h2 h3); have hsz3 := hP3.out.below.size; clear hst3 hb3)
            | (at_builtin; refine wpList_append_own_at _ rfl _ _ 26 rfl w1.heap.size 44 i0 (.agg #[.bool false, .slice none 0 0, .slice none 0 0, .slice none 0 0]) 4 80 Tryz.underlying26 hi hz0 hz1 hz2 rfl (by decide) v qs.length _ rfl (hown.alloc _) ⟨w3.heap.size, 0, none⟩ 1 1 (pcC (pieceD Bt Ss fav un).1 pv) rfl rfl (cell_new_pc _ _ pv _) (pcC_one _ _) hmax.out.1 hmax.out.2 (by simp; omega) ?_; intro v' w4 hown4 hg4 hnil4 hloc4; have hPn := Lib.hid (hput.out _ _ hown4 hg4 hloc4); clear hnil4))
          go_roundw
          case rel => exact ⟨k + 1, v', _, by omega, by go_num, rfl, hPn, Lib.hid (by rw [List.map_append, hQ.out, hnx2.out]; rfl)⟩
          case measure => simp [intOf]; omega
        · have hnx2 : Hid ((cs.take (k + 1)).map (pcOf base sides fav un) = (cs.take k).map (pcOf base sides fav un) ++ [tPc Bt]) := Lib.hid (by rw [hnx.out, hpc.out]; rfl)
          clear hnx hpc
          go_wp2_with (first
            | (go_at_call 47; refine hPth.out.mono ?_; rintro e w3 ⟨A6, n6, c6, A7, n7, c7, rows7, rfl, hTb, r1, r2, hR7, hown7, hlow7, hb2⟩; have z0 := (hb2.cell (p := ⟨b, o + k * 4, none⟩) hblt).trans y0; have hP3 := Lib.hid (hP.out.up hb2); have hown := hP3.out.own; have hsz3 := hP3.out.below.size; have hst3 : ∀ w5, But (fun j => v.ownBlock = some j) w3 w5 → PcR w5 w5.heap.size ((A6, n6, c6), (none, 0, 0), (none, 0, 0)) (tPc Bt) := (fun w5 h5 => PcR.text (hTb.butB hsz3 h5 (fun j e => (hown.lt j e).1))); have hput := Lib.hid (fun v' w4 h1 h2 h3 => hP3.out.put (r := ((A6, n6, c6), (none, 0, 0), (none, 0, 0))) (p := tPc Bt) (v' := v') (w2 := w4) (o := .cells #[.bool false, .slice A6 n6 c6, .slice none 0 0, .slice none 0 0] 44) hst3 h1 h2 h3); clear hTb hR7 hown7 hlow7 hb2 hst3)
            | (at_builtin; refine wpList_append_own_at _ rfl _ _ 26 rfl w1.heap.size 44 i0 (.agg #[.bool false, .slice none 0 0, .slice none 0 0, .slice none 0 0]) 4 80 Tryz.underlying26 hi hz0 hz1 hz2 rfl (by decide) v qs.length _ rfl (hown.alloc _) ⟨w3.heap.size, 0, none⟩ 1 1 (pcC false ((A6, n6, c6), (none, 0, 0), (none, 0, 0))) rfl rfl (cell_new_pc _ _ ((A6, n6, c6), (none, 0, 0), (none, 0, 0)) _) (pcC_one _ _) hmax.out.1 hmax.out.2 (by simp; omega) ?_; intro v' w4 hown4 hg4 hnil4 hloc4; have hPn := Lib.hid (hput.out _ _ hown4 hg4 hloc4); clear hnil4))
          go_roundw
          case rel => exact ⟨k + 1, v', _, by omega, by go_num, rfl, hPn, Lib.hid (by rw [List.map_append, hQ.out, hnx2.out]; rfl)⟩
          case measure => simp [intOf]; omega
      · obtain rfl : k = n1 := by omega
        have hQf : qs.map (fun q => q.2) = cs.map (pcOf base sides fav un) := by have := hQ.out; rwa [List.take_of_length_le (by rw [hn1h.out]; exact Nat.le_refl _)] at this
        obtain ⟨A8, c8, rfl, r1, r2, r3⟩ := hP.out.reads
        rw [hQf] at r3
        have hql : qs.length = k := by
          have e := congrArg List.length hQf
          rw [List.length_map, List.length_map] at e
          rw [e, hn1h.out]
        have hN := Lib.hid (rNormal_any A8 qs.length c8 _ (cs.map (pcOf base sides fav un)) wo (by omega) (Nat.le_trans (hsum.out cs (by have := hn1h.out; omega)) (by decide)) r3)
        have hbf := Lib.hid (hbw1.out.trans (hbo.mono hbw1.out.size))
        clear r1 r2 r3 hQf hql
        go_wp2_with (go_at_call 27; refine hN.out.mono ?_; rintro e w3 ⟨A9, n9, c9, vs9, rfl, s1, s2, s3, s4⟩; have hs9 := Lib.hid (And.intro s1 (And.intro s2 (And.intro s3 s4))); clear s1 s2 s3 s4)
        go_ret2
        exact hfin.out ms cs A9 n9 c9 vs9 _ hMC.out.1 hMC.out.2 hs9.out.1 hs9.out.2.1 hs9.out.2.2.1 (hbf.out.trans (hs9.out.2.2.2.mono hbf.out.size))
  · rw [hun] at x1
    clear hun
    go_upto_region 6 with fail
    clear x0 x1 e1 e2 hbr
    go_wp2
    go_loopw [10, 11, 12, 13, 14] (fun s10 s11 _ _ _ wr => ∃ (k : Nat) (v : Value) (qs : List (PcV × Pc)), k ≤ n1 ∧ s11 = .int .i64 k ∧ v = s10 ∧ Hid (PcsO w1 wr v qs) ∧ Hid (qs.map (fun q => q.2) = (cs.take k).map (pcOf base sides fav un))) (fun _ s11 _ _ _ _ => n1 - (intOf s11).toNat)
    case atStart => exact ⟨0, _, [], Nat.zero_le _, rfl, rfl, Lib.hid (PcsO.start w1), Lib.hid rfl⟩
    case round =>
      obtain ⟨k, v, qs, hk, rfl, rfl, hP, hQ⟩ := hrel
      obtain ⟨wo, rfl⟩ : ∃ wo : World, wo = wr := ⟨_, rfl⟩
      have hbo := hP.out.below
      have hsz1 := hbo.size
      have x0 := (hbo.cell (p := ⟨w.heap.size, 0, none⟩) hlt1).trans x0h.out
      have x1 := (hbo.cell (p := ⟨w.heap.size, 1, none⟩) hlt1).trans x1h.out
      by_cases hlt2 : k < n1
      · obtain ⟨b, o, ck, A5, n5, c5, rfl, hb5, hck, y0, y1, y2, y3, hn5, hc5, hS⟩ := (hcs.out.2.2.1.keep (w' := wo) (fun p hp => hbo.cell hp)).at_ (k := k) hlt2
        obtain ⟨st, ⟨f, t⟩, spans⟩ := ck
        dsimp only at y0 y1 y2 hS
        have hi1 : (0 : Int) ≤ (k : Int) := by omega
        have hi2 : (k : Int) < (n1 : Int) := by omega
        obtain ⟨l1, l2, l3⟩ := laid_parts hLd.out (List.mem_of_getElem? hck)
        have hPt := rParts_anyR w1.heap.size st f t spans A5 n5 c5 A0 n0 c0 base A n c rows sides wo (by omega) (Nat.le_trans hn5 hc5) (hS.more hsz1) hsz1 (hB0.out.below hbo) ((hR0.out.below hbo).more hsz1) (fun j r ss a b => (hR0.out.2.2 j r ss a b).below hbo)
        rw [l1, l2, l3] at hPt
        obtain ⟨Bt, hBt⟩ : ∃ Bt, cutB (st, (f, t), spans) base = Bt := ⟨_, rfl⟩
        obtain ⟨Ss, hSs⟩ : ∃ Ss, cutsP (st, (f, t), spans) sides = Ss := ⟨_, rfl⟩
        have hT9 := Lib.hid (parts_T hsMh.out (st, (f, t), spans))
        have hS100 := Lib.hid (show (cutsP (st, (f, t), spans) sides).length ≤ 100 from by have h1 := cutsP_le (st, (f, t), spans) sides; have h2 := hlh.out; omega)
        rw [hBt, hSs] at hPt hT9
        rw [hSs] at hS100
        have hpc : Hid (pcOf base sides fav un (st, (f, t), spans) = if st = true then tPc Bt else pieceD Bt Ss fav un) := Lib.hid (by unfold pcOf; rw [hBt, hSs])
        have hnx := Lib.hid (show (cs.take (k + 1)).map (pcOf base sides fav un) = (cs.take k).map (pcOf base sides fav un) ++ [pcOf base sides fav un (st, (f, t), spans)] by rw [take_at hck, List.map_append]; rfl)
        have hPth := Lib.hid hPt
        have hql : qs.length = k := by
          have e := congrArg List.length hQ.out
          rw [List.length_map, List.length_map, List.length_take] at e
          have := hn1h.out
          omega
        have hmax : Hid (qs.length + 1 ≤ maxLen ∧ (qs.length + 1) * 80 ≤ 140737488355328) := Lib.hid ⟨by unfold maxLen; omega, by omega⟩
        have hblt : b < wo.heap.size := by omega
        have hwl : w.heap.size < wo.heap.size := by omega
        have y0h := Lib.hid y0
        clear hPt hS hck hBt hSs l1 l2 l3 hql
        cases st
        · have hnx2 : Hid ((cs.take (k + 1)).map (pcOf base sides fav un) = (cs.take k).map (pcOf base sides fav un) ++ [pieceD Bt Ss fav un]) := Lib.hid (by rw [hnx.out, hpc.out]; rfl)
          clear hnx hpc
          go_wp2_with (first
            | (go_at_call 47; refine hPth.out.mono ?_; rintro e w2 ⟨A6, n6, c6, A7, n7, c7, rows7, rfl, hTb, r1, r2, hR7, hown7, hlow7, hb2⟩; have z0 := (hb2.cell (p := ⟨b, o + k * 4, none⟩) hblt).trans y0; have z1 := (hb2.cell (p := ⟨w.heap.size, 0, none⟩) hwl).trans x0; have z2 := (hb2.cell (p := ⟨w.heap.size, 1, none⟩) hwl).trans x1; have hP2 := Lib.hid (hP.out.up hb2); have hlen7 := hR7.len; have hFk : ∀ j, v.ownBlock = some j → w1.heap.size ≤ j ∧ j < wo.heap.size := (fun j e => hP.out.own.lt j e); have hw2s := hb2.size; have hPi := Lib.hid (rPieceF_any (fun j => v.ownBlock = some j) w1.heap.size A6 n6 c6 Bt A7 n7 c7 rows7 Ss fav un w2 r1 r2 (by have := hS100.out; omega) hfav hT9.out (by omega) (fun j e => ⟨(hFk j e).1, by have := (hFk j e).2; omega⟩) hTb hR7 hlow7 (fun w3 h3 => parts_stand hown7 hR7.2.1 hlow7 (by omega) hFk h3)); have hb2h := Lib.hid hb2; clear hTb hR7 hown7 hlow7 hlen7 hb2 hFk)
            | (go_at_call 48; refine hPi.out.mono ?_; rintro e w3 ⟨pv, rfl, hst3, hb3⟩; have hP3 := Lib.hid (hP2.out.up hb3); have hown := hP3.out.own; have hput := Lib.hid (fun v' w4 h1 h2 h3 => hP3.out.put (r := pv) (p := pieceD Bt Ss fav un) (v' := v') (w2 := w4) (o := .cells #[.bool (pieceD Bt Ss fav un).1, .slice pv.1.1 pv.1.2.1 pv.1.2.2, .slice pv.2.1.1 pv.2.1.2.1 pv.2.1.2.2, .slice pv.2.2.1 pv.2.2.2.1 pv.2.2.2.2] 44) hst3 h1 h2 h3); have hsz3 := hP3.out.below.size; clear hst3 hb3)
            | (at_builtin; refine wpList_append_own_at _ rfl _ _ 26 rfl w1.heap.size 44 i0 (.agg #[.bool false, .slice none 0 0, .slice none 0 0, .slice none 0 0]) 4 80 Tryz.underlying26 hi hz0 hz1 hz2 rfl (by decide) v qs.length _ rfl (hown.alloc _) ⟨w3.heap.size, 0, none⟩ 1 1 (pcC (pieceD Bt Ss fav un).1 pv) rfl rfl (cell_new_pc _ _ pv _) (pcC_one _ _) hmax.out.1 hmax.out.2 (by simp; omega) ?_; intro v' w4 hown4 hg4 hnil4 hloc4; have hPn := Lib.hid (hput.out _ _ hown4 hg4 hloc4); clear hnil4))
          go_roundw
          case rel => exact ⟨k + 1, v', _, by omega, by go_num, rfl, hPn, Lib.hid (by rw [List.map_append, hQ.out, hnx2.out]; rfl)⟩
          case measure => simp [intOf]; omega
        · have hnx2 : Hid ((cs.take (k + 1)).map (pcOf base sides fav un) = (cs.take k).map (pcOf base sides fav un) ++ [tPc Bt]) := Lib.hid (by rw [hnx.out, hpc.out]; rfl)
          clear hnx hpc
          go_wp2_with (first
            | (go_at_call 47; refine hPth.out.mono ?_; rintro e w3 ⟨A6, n6, c6, A7, n7, c7, rows7, rfl, hTb, r1, r2, hR7, hown7, hlow7, hb2⟩; have z0 := (hb2.cell (p := ⟨b, o + k * 4, none⟩) hblt).trans y0; have hP3 := Lib.hid (hP.out.up hb2); have hown := hP3.out.own; have hsz3 := hP3.out.below.size; have hst3 : ∀ w5, But (fun j => v.ownBlock = some j) w3 w5 → PcR w5 w5.heap.size ((A6, n6, c6), (none, 0, 0), (none, 0, 0)) (tPc Bt) := (fun w5 h5 => PcR.text (hTb.butB hsz3 h5 (fun j e => (hown.lt j e).1))); have hput := Lib.hid (fun v' w4 h1 h2 h3 => hP3.out.put (r := ((A6, n6, c6), (none, 0, 0), (none, 0, 0))) (p := tPc Bt) (v' := v') (w2 := w4) (o := .cells #[.bool false, .slice A6 n6 c6, .slice none 0 0, .slice none 0 0] 44) hst3 h1 h2 h3); clear hTb hR7 hown7 hlow7 hb2 hst3)
            | (at_builtin; refine wpList_append_own_at _ rfl _ _ 26 rfl w1.heap.size 44 i0 (.agg #[.bool false, .slice none 0 0, .slice none 0 0, .slice none 0 0]) 4 80 Tryz.underlying26 hi hz0 hz1 hz2 rfl (by decide) v qs.length _ rfl (hown.alloc _) ⟨w3.heap.size, 0, none⟩ 1 1 (pcC false ((A6, n6, c6), (none, 0, 0), (none, 0, 0))) rfl rfl (cell_new_pc _ _ ((A6, n6, c6), (none, 0, 0), (none, 0, 0)) _) (pcC_one _ _) hmax.out.1 hmax.out.2 (by simp; omega) ?_; intro v' w4 hown4 hg4 hnil4 hloc4; have hPn := Lib.hid (hput.out _ _ hown4 hg4 hloc4); clear hnil4))
          go_roundw
          case rel => exact ⟨k + 1, v', _, by omega, by go_num, rfl, hPn, Lib.hid (by rw [List.map_append, hQ.out, hnx2.out]; rfl)⟩
          case measure => simp [intOf]; omega
      · obtain rfl : k = n1 := by omega
        have hQf : qs.map (fun q => q.2) = cs.map (pcOf base sides fav un) := by have := hQ.out; rwa [List.take_of_length_le (by rw [hn1h.out]; exact Nat.le_refl _)] at this
        obtain ⟨A8, c8, rfl, r1, r2, r3⟩ := hP.out.reads
        rw [hQf] at r3
        have hql : qs.length = k := by
          have e := congrArg List.length hQf
          rw [List.length_map, List.length_map] at e
          rw [e, hn1h.out]
        have hN := Lib.hid (rNormal_any A8 qs.length c8 _ (cs.map (pcOf base sides fav un)) wo (by omega) (Nat.le_trans (hsum.out cs (by have := hn1h.out; omega)) (by decide)) r3)
        have hbf := Lib.hid (hbw1.out.trans (hbo.mono hbw1.out.size))
        clear r1 r2 r3 hQf hql
        go_wp2_with (go_at_call 27; refine hN.out.mono ?_; rintro e w3 ⟨A9, n9, c9, vs9, rfl, s1, s2, s3, s4⟩; have hs9 := Lib.hid (And.intro s1 (And.intro s2 (And.intro s3 s4))); clear s1 s2 s3 s4)
        go_ret2
        exact hfin.out ms cs A9 n9 c9 vs9 _ hMC.out.1 hMC.out.2 hs9.out.1 hs9.out.2.1 hs9.out.2.2.1 (hbf.out.trans (hs9.out.2.2.2.mono hbf.out.size))

/-- The document's own Merge, as its contract asks. -/
theorem rMerge_any (A0 : Option Addr) (n0 c0 : Nat) (base : Txs) (A : Option Addr) (n c : Nat) (rows : List Slc) (sides : List Txs) (fav : Int) (un : Bool) (w : World) (hnc : n ≤ c) (hcm : c ≤ maxLen) (hfav : inR64 fav) (hsm : smallR base sides) (hA0 : TxR w w.heap.size (A0, n0, c0) base) (hA : RowsT w w.heap.size A n rows sides) :
    Calls Tryz.prog 24 #[.slice A0 n0 c0, .slice A n c, .agg #[.int .i64 fav, .bool un]] w fun e w' => MergeOut w w' e base sides fav un := by
  by_cases hz : wrongN base sides = 0
  · by_cases hh : fav < 0 ∨ (n : Int) < fav ∨ (fav ≠ 0 ∧ un = true)
    · exact rMerge_how A0 n0 c0 base A n c rows sides fav un w hnc hcm hsm hA0 hA hz hh
    · refine rMerge_good A0 n0 c0 base A n c rows sides fav un w hnc hcm hfav hsm hA0 hA hz (by omega) (by omega) ?_
      by_cases h0 : fav = 0
      · exact .inl h0
      · refine .inr ?_
        cases un with
        | false => rfl
        | true => exact absurd (.inr (.inr ⟨h0, rfl⟩)) hh
  · exact rMerge_bad A0 n0 c0 base A n c rows sides fav un w hnc hcm hsm hA0 hA hz
end Go.Proofs.YtoephlkfejcadaaGreat
/- Proved here, without conditions: plain facts on what is chosen, piece by piece. -/
namespace Go.Proofs.YtoephlkfejcadaaGreat
set_option linter.unusedVariables false

theorem choose_snoc {ps : List Pc} {i : Nat} {p : Pc} (n : Int) (h : ps[i]? = some p) : choose (ps.take (i + 1)) n = choose (ps.take i) n ++ chosen n p := by
  rw [take_at h]
  unfold choose
  rw [List.flatMap_append]
  simp
theorem choose_pre (ps : List Pc) (n : Int) (i : Nat) : (choose (ps.take i) n).length ≤ (choose ps n).length := by
  conv => rhs; rw [← List.take_append_drop i ps]
  unfold choose
  rw [List.flatMap_append, List.length_append]
  omega
/-- What is chosen among the sides, as far as place k. -/
def chosenTo (n : Int) (ss : List Txs) (k : Nat) : Txs := if 1 ≤ n ∧ (n - 1).toNat < k then (ss[(n - 1).toNat]?).getD [] else []
theorem chosenTo_step {n : Int} {ss : List Txs} {k : Nat} {x : Txs} (h : ss[k]? = some x) : chosenTo n ss (k + 1) = if (k : Int) = n - 1 then chosenTo n ss k ++ x else chosenTo n ss k := by
  unfold chosenTo
  by_cases e : (k : Int) = n - 1
  · have e1 : (n - 1).toNat = k := by omega
    rw [if_pos e, if_pos (by omega), if_neg (by omega), e1, h]
    rfl
  · rw [if_neg e]
    by_cases h2 : 1 ≤ n ∧ (n - 1).toNat < k
    · rw [if_pos (by omega), if_pos h2]
    · rw [if_neg (by omega), if_neg h2]
theorem chosenTo_end (n : Int) (t bs : Txs) (ss : List Txs) : chosenTo n ss ss.length = chosen n (true, t, bs, ss) := by
  unfold chosenTo chosen
  simp only [if_true]
  by_cases h : 1 ≤ n
  · by_cases h2 : (n - 1).toNat < ss.length
    · rw [if_pos ⟨h, h2⟩, if_pos h]
    · rw [if_neg (by omega), if_pos h, List.getElem?_eq_none (by omega)]
      rfl
  · rw [if_neg (by omega), if_neg h]
theorem chosenTo_len (n : Int) (t bs : Txs) (ss : List Txs) (k : Nat) : (chosenTo n ss k).length ≤ (chosen n (true, t, bs, ss)).length := by
  unfold chosenTo chosen
  simp only [if_true]
  by_cases h : 1 ≤ n
  · rw [if_pos h]
    split
    · exact Nat.le_refl _
    · simp
  · rw [if_neg (by omega)]; simp
end Go.Proofs.YtoephlkfejcadaaGreat
