/- Proved here: texts joined: FlFn, ScrChk, LcsRow. -/
import Derived.Test.YtoopdgohdeddoaaGreatDoorBs09
import Derived.Test.YtoopdgohdeddoaaGreatDoorBs10
import Derived.Test.YtoopdgohdeddoaaGreatDoorBs21
import Derived.Test.YtoopdgohdeddoaaGreatDoorBs28
import Derived.Test.YtoopdgohdeddoaaGreatDoorBs29
import Derived.Deep.RegionHeld3
import Derived.RegionTactic
import Derived.BigRegion
import Derived.ChangeAlike
/- Proved here: the contracts of the landed flags.Known, Does, Kind. -/
namespace Go.Proofs.YtoopdgohdeddoaaGreatDoor
open Go.RowKit
set_option linter.unusedVariables false
set_option maxRecDepth 100000

theorem deed_look (c : UInt8) {W : World} {b n : Nat} (h : W.ownsMap Tryz.prog 5 deedsR b n deedMap) : (Instr.lookup 66 (.map (some b)) (.int .u8 (c.toNat : Int)) false).run Tryz.prog W = .ok (deedV (doesF c 2 : Nat) (doesF c 4 : Nat)) W := by
  obtain ⟨v, ps, hrun, hv⟩ := h.lookup lawU8 Tryz.underlying66 (zeroDeeds W) (deedsR_mk 0 0) (keyU8 c)
  rw [deedMap_at] at hv
  rw [hrun, deedsR_inv hv]
theorem deed_look_ok (c : UInt8) {W : World} {b n : Nat} (h : W.ownsMap Tryz.prog 5 deedsR b n deedMap) : (Instr.lookup 66 (.map (some b)) (.int .u8 (c.toNat : Int)) true).run Tryz.prog W = .ok (.tuple #[deedV (doesF c 2 : Nat) (doesF c 4 : Nat), .bool (knownB c)]) W := by
  obtain ⟨v, ps, hrun, hv⟩ := h.look_ok lawU8 Tryz.underlying66 (zeroDeeds W) (deedsR_mk 0 0) (keyU8 c)
  rw [deedMap_at] at hv
  rw [hrun, deedsR_inv hv, deedMap_has]

set_option maxHeartbeats 2000000 in
theorem known_any : FlagKnownOk := by
  intro c w
  have hF := Lib.hid (byFlag_any w)
  have hL := Lib.hid (fun (W : World) (b n : Nat) h => deed_look_ok c (W := W) (b := b) (n := n) h)
  obtain ⟨k, hk⟩ : ∃ k, knownB c = k := ⟨_, rfl⟩
  obtain ⟨P, hP⟩ : ∃ P : Int, (doesF c 2 : Nat) = P := ⟨_, rfl⟩
  obtain ⟨Q, hQ⟩ : ∃ Q : Int, (doesF c 4 : Nat) = Q := ⟨_, rfl⟩
  obtain ⟨C, hC⟩ : ∃ C : Int, (c.toNat : Int) = C := ⟨_, rfl⟩
  rw [hk, hC, hP, hQ] at hL
  rw [hk, hC]
  unfold deedV at hL
  clear hk hC hP hQ
  go_enter Tryz.func18, Tryz.ntmps18
  go_wp2_with (go_at_call 33; refine hF.out.mono ?_; rintro e w1 ⟨b, rfl, hm, hb⟩; have hl := hL.out _ _ _ hm; have hB1 := Lib.hid hb; clear hm hb)
  go_ret
  exact ⟨rfl, below_alloc hB1.out _⟩

set_option maxHeartbeats 2000000 in
theorem does_any : FlagDoesOk := by
  intro c k w hk
  have hF := Lib.hid (byFlag_any w)
  have hL := Lib.hid (fun (W : World) (b n : Nat) h => deed_look c (W := W) (b := b) (n := n) h)
  obtain ⟨P, hP⟩ : ∃ P : Int, (doesF c 2 : Nat) = P := ⟨_, rfl⟩
  obtain ⟨Q, hQ⟩ : ∃ Q : Int, (doesF c 4 : Nat) = Q := ⟨_, rfl⟩
  obtain ⟨C, hC⟩ : ∃ C : Int, (c.toNat : Int) = C := ⟨_, rfl⟩
  have hdo : Hid (doesF c k = if k = 2 then P else if k = 4 then Q else (0 : Int)) := Lib.hid (by
    rw [← hP, ← hQ]
    by_cases h2 : k = 2
    · subst h2; rw [if_pos rfl]
    · rw [if_neg h2]
      by_cases h4 : k = 4
      · subst h4; rw [if_pos rfl]
      · rw [if_neg h4]
        unfold doesF
        rw [if_neg h2, if_pos h4]
        split <;> rfl)
  rw [hC, hP, hQ] at hL
  rw [hC, hdo.out]
  unfold deedV at hL
  have hb0 := Lib.hid (Below.refl w.heap.size w)
  unfold inR64 at hk
  clear hC hP hQ hdo
  by_cases h : 0 ≤ k ∧ k ≤ 4
  · obtain (rfl | rfl | rfl | rfl | rfl) : k = 0 ∨ k = 1 ∨ k = 2 ∨ k = 3 ∨ k = 4 := by omega
    all_goals
      clear h hk
      have x0 : ∀ W : World, (Instr.index 64 (.agg #[.int .i64 0, .int .i64 0, .int .i64 P, .int .i64 0, .int .i64 Q]) (.int .i64 0)).run Tryz.prog W = .ok (.int .i64 0) W := fun _ => by kernel_rfl
      have x1 : ∀ W : World, (Instr.index 64 (.agg #[.int .i64 0, .int .i64 0, .int .i64 P, .int .i64 0, .int .i64 Q]) (.int .i64 1)).run Tryz.prog W = .ok (.int .i64 0) W := fun _ => by kernel_rfl
      have x2 : ∀ W : World, (Instr.index 64 (.agg #[.int .i64 0, .int .i64 0, .int .i64 P, .int .i64 0, .int .i64 Q]) (.int .i64 2)).run Tryz.prog W = .ok (.int .i64 P) W := fun _ => by kernel_rfl
      have x3 : ∀ W : World, (Instr.index 64 (.agg #[.int .i64 0, .int .i64 0, .int .i64 P, .int .i64 0, .int .i64 Q]) (.int .i64 3)).run Tryz.prog W = .ok (.int .i64 0) W := fun _ => by kernel_rfl
      have x4 : ∀ W : World, (Instr.index 64 (.agg #[.int .i64 0, .int .i64 0, .int .i64 P, .int .i64 0, .int .i64 Q]) (.int .i64 4)).run Tryz.prog W = .ok (.int .i64 Q) W := fun _ => by kernel_rfl
      go_enter Tryz.func43, Tryz.ntmps43
      go_wp2_with (go_at_call 33; refine hF.out.mono ?_; rintro e w1 ⟨b, rfl, hm, hb⟩; have hl := hL.out _ _ _ hm; have hB1 := Lib.hid hb; clear hm hb)
      go_ret
      exact ⟨rfl, hB1.out⟩
  · have h1 : k < 0 ∨ 4 < k := by omega
    have hz : (if k = 2 then P else if k = 4 then Q else (0 : Int)) = 0 := by rw [if_neg (by omega), if_neg (by omega)]
    rw [hz]
    clear h hz
    rcases h1 with h1 | h1
    all_goals
      go_enter Tryz.func43, Tryz.ntmps43
      go_wp2
      go_ret
      exact ⟨rfl, hb0.out⟩

set_option maxHeartbeats 2000000 in
theorem kind_anyL : FlagKindOk := by
  intro A0 n0 c0 mine A1 n1 c1 older A2 n2 c2 yours w _ _ _ h0 h1 h2
  have hS : ∀ (r r' : Slc) (d d' : Txs) (W : World), Below w.heap.size w W → TxR w w.heap.size r d → TxR w w.heap.size r' d' → Calls Tryz.prog 79 #[.slice r.1 r.2.1 r.2.2, .slice r'.1 r'.2.1 r'.2.2] W fun e w' => e = .returned (.bool (decide (d = d'))) ∧ Below w.heap.size w w' := fun r r' d d' W hb k1 k2 => by
    refine (equal_any r.1 r'.1 r.2.1 r'.2.1 r.2.2 r'.2.2 W.heap.size W.heap.size d d' W (Nat.le_trans k1.1 k1.2.1) (Nat.le_trans k2.1 k2.2.1) (k1.up hb).2.2 (k2.up hb).2.2).mono ?_
    rintro e w' ⟨r, q, rfl⟩
    exact ⟨r, below_drewN hb q⟩
  obtain ⟨a, ha⟩ : ∃ a, decide (mine = older) = a := ⟨_, rfl⟩
  obtain ⟨b, hb⟩ : ∃ b, decide (yours = older) = b := ⟨_, rfl⟩
  obtain ⟨c, hc⟩ : ∃ c, decide (mine = yours) = c := ⟨_, rfl⟩
  have hA := Lib.hid (fun W hW => ha ▸ hS (A0, n0, c0) (A1, n1, c1) mine older W hW h0 h1)
  have hB := Lib.hid (fun W hW => hb ▸ hS (A2, n2, c2) (A1, n1, c1) yours older W hW h2 h1)
  have hC := Lib.hid (fun W hW => hc ▸ hS (A0, n0, c0) (A2, n2, c2) mine yours W hW h0 h2)
  have hK : Hid (kindF mine older yours = if a = true ∧ b = true then 0 else if b = true then 1 else if a = true then 2 else if c = true then 3 else 4) := Lib.hid (by
    unfold kindF
    rw [← ha, ← hb, ← hc]
    simp only [decide_eq_true_eq])
  have hb0 := Lib.hid (Below.refl w.heap.size w)
  have tok1 := trivial
  clear h0 h1 h2 hS ha hb hc
  cases a <;> cases b <;> cases c
  all_goals
    go_enter Tryz.func44, Tryz.ntmps44
    go_wp2_with (first
      | (go_at_call 79; have _t := tok1; refine (hA.out _ hb0.out).mono ?_; rintro e w1 ⟨rfl, q1⟩; have hB1 := Lib.hid q1; have tok2 := trivial; clear tok1 q1)
      | (go_at_call 79; have _t := tok2; refine (hB.out _ hB1.out).mono ?_; rintro e w2 ⟨rfl, q2⟩; have hB2 := Lib.hid q2; have tok3 := trivial; clear tok2 q2)
      | (go_at_call 79; have _t := tok3; refine (hC.out _ hB2.out).mono ?_; rintro e w3 ⟨rfl, q3⟩; have hB3 := Lib.hid q3; clear tok3 q3))
    go_ret
    exact ⟨ret_int (by rw [hK.out]; rfl), by first | exact hB3.out | exact hB2.out⟩
end Go.Proofs.YtoopdgohdeddoaaGreatDoor
/- Proved here: the contract of the landed script's putChunk. -/
namespace Go.Proofs.YtoopdgohdeddoaaGreatDoor
open Go.RowKit
set_option linter.unusedVariables false
set_option maxRecDepth 100000

theorem laid_false (B Y : Txs) : ([] : List Txs).flatten ++ eqS :: (Y ++ [yoS]) = laidT false B Y := rfl
theorem laid_true (B Y : Txs) : [[[124, 124, 124, 124, 124, 124, 124, 32, 79, 76, 68, 69, 82, 10]], B].flatten ++ eqS :: (Y ++ [yoS]) = laidT true B Y := by
  unfold laidT
  simp [eqS, yoS]
theorem laid_small {b : Bool} {B Y : Txs} (h1 : ∀ s ∈ B, s.length ≤ 1000) (h2 : ∀ s ∈ Y, s.length ≤ 1000) : ∀ s ∈ laidT b B Y, s.length ≤ 1000 := by
  intro s hs
  unfold laidT at hs
  rcases List.mem_append.1 hs with hs | hs
  · split at hs
    · rcases List.mem_cons.1 hs with rfl | hs
      · decide
      · exact h1 s hs
    · cases hs
  · rcases List.mem_cons.1 hs with rfl | hs
    · decide
    · rcases List.mem_append.1 hs with hs | hs
      · exact h2 s hs
      · rw [List.mem_singleton.1 hs]; decide
theorem laid_ln2 (b : Bool) (B Y : Txs) : (laidT b B Y).length ≤ B.length + Y.length + 3 := laid_ln b B Y

set_option maxHeartbeats 8000000 in
theorem scChunk_any (w0 : World) (Bl : Nat) (c : UInt8) (mine older yours : Txs) (st : Bool) (f t : Int) (f0 t0 : Nat) (s1 : Sp) (A6 : Option Addr) (c6 : Nat) (A1 : Option Addr) (n1 c1 : Nat) (A7 : Option Addr) (c7 : Nat) (rows : List Slc) (v : Value) (xs : Txs) (wr : World) (hS : Pn w0 Bl wr v xs)
    (hc6 : 2 ≤ c6 ∧ c6 ≤ maxLen) (hSp : Spans wr wr.heap.size A6 2 [((f0 : Int), (t0 : Int)), s1]) (hO : TxR wr wr.heap.size (A1, n1, c1) older) (hR : RowsT wr wr.heap.size A7 2 rows [mine, yours])
    (hP : partErr (st, (f, t), [((f0 : Int), (t0 : Int)), s1]) older [mine, yours] = 0 ∧ partBase (st, (f, t), [((f0 : Int), (t0 : Int)), s1]) older [mine, yours] = cutB (st, (f, t), [((f0 : Int), (t0 : Int)), s1]) older ∧ partSides (st, (f, t), [((f0 : Int), (t0 : Int)), s1]) older [mine, yours] = cutsP (st, (f, t), [((f0 : Int), (t0 : Int)), s1]) [mine, yours])
    (hft : f0 ≤ t0) (ht : t0 ≤ 16) (hm : smallS mine) (ho : smallS older) (hy : smallS yours) (hx : xs.length ≤ 1000000) :
    Calls Tryz.prog 22 #[putFn Bl, .int .u8 (c.toNat : Int), .agg #[.bool st, .int .i64 f, .int .i64 t, .slice A6 2 c6], .slice A1 n1 c1, .slice A7 2 c7] wr fun e w' => e = .returned (.tuple #[]) ∧ PnPut w0 Bl wr w' v (xs ++ cmdsD c (chunkC mine older yours (st, (f, t), [((f0 : Int), (t0 : Int)), s1]))) := by
  obtain ⟨W0, hW0⟩ : ∃ W0, W0 = wr.alloc (.cells #[.bool st, .int .i64 f, .int .i64 t, .slice A6 2 c6] 51) := ⟨_, rfl⟩
  have hB0 : Below wr.heap.size wr W0 := by rw [hW0]; exact below_alloc (Below.refl _ _) _
  have k0 : W0.heap[wr.heap.size]? = some (.cells #[.bool st, .int .i64 f, .int .i64 t, .slice A6 2 c6] 51 (0, 0)) := by rw [hW0]; exact one_a wr _
  have hlt : wr.heap.size < W0.heap.size := (Array.getElem?_eq_some_iff.1 k0).1
  have hM := (show (cutS (st, (f, t), [((f0 : Int), (t0 : Int)), s1]) 0 mine).length ≤ 16 ∧ ∀ s ∈ cutS (st, (f, t), [((f0 : Int), (t0 : Int)), s1]) 0 mine, s.length ≤ 100 from ⟨Nat.le_trans (cutL_le _ _ _) hm.1, fun s hs => hm.2 s (cutL_mem hs)⟩)
  have hY := (show (cutS (st, (f, t), [((f0 : Int), (t0 : Int)), s1]) 1 yours).length ≤ 16 ∧ ∀ s ∈ cutS (st, (f, t), [((f0 : Int), (t0 : Int)), s1]) 1 yours, s.length ≤ 100 from ⟨Nat.le_trans (cutL_le _ _ _) hy.1, fun s hs => hy.2 s (cutL_mem hs)⟩)
  have hBs := (show (cutB (st, (f, t), [((f0 : Int), (t0 : Int)), s1]) older).length ≤ 16 ∧ ∀ s ∈ cutB (st, (f, t), [((f0 : Int), (t0 : Int)), s1]) older, s.length ≤ 100 from ⟨Nat.le_trans (cutL_le _ _ _) ho.1, fun s hs => ho.2 s (cutL_mem hs)⟩)
  have hPt := parts_any st f t [((f0 : Int), (t0 : Int)), s1] A6 2 c6 A1 n1 c1 older A7 2 c7 rows [mine, yours] W0 (by decide) (by decide) ((hSp.keep (fun p hp => hB0.cell hp)).more hB0.size) (hO.up hB0) (hR.up hB0)
  rw [hP.1, hP.2.1, hP.2.2, show cutsP (st, (f, t), [((f0 : Int), (t0 : Int)), s1]) [mine, yours] = [cutS (st, (f, t), [((f0 : Int), (t0 : Int)), s1]) 0 mine, cutS (st, (f, t), [((f0 : Int), (t0 : Int)), s1]) 1 yours] from rfl] at hPt
  obtain ⟨d, hd⟩ : ∃ d, doesF c (kindF (cutS (st, (f, t), [((f0 : Int), (t0 : Int)), s1]) 0 mine) (cutB (st, (f, t), [((f0 : Int), (t0 : Int)), s1]) older) (cutS (st, (f, t), [((f0 : Int), (t0 : Int)), s1]) 1 yours)) = d := ⟨_, rfl⟩
  have hci := cmds_is (mine := mine) (older := older) (yours := yours) d hd
  rw [show ((f0 : Int), (t0 : Int)).1.toNat = f0 from by simp, show ((f0 : Int), (t0 : Int)).2.toNat = t0 from by simp] at hci
  have hdle : d ≤ 3 := by rw [← hd]; exact does_le
  obtain ⟨M, hMM⟩ : ∃ M, cutS (st, (f, t), [((f0 : Int), (t0 : Int)), s1]) 0 mine = M := ⟨_, rfl⟩
  obtain ⟨Y, hYY⟩ : ∃ M, cutS (st, (f, t), [((f0 : Int), (t0 : Int)), s1]) 1 yours = M := ⟨_, rfl⟩
  obtain ⟨B, hBB⟩ : ∃ M, cutB (st, (f, t), [((f0 : Int), (t0 : Int)), s1]) older = M := ⟨_, rfl⟩
  obtain ⟨Z, hZ⟩ : ∃ Z, cmdsD c (chunkC mine older yours (st, (f, t), [((f0 : Int), (t0 : Int)), s1])) = Z := ⟨_, rfl⟩
  rw [hMM] at hPt hM hd
  rw [hYY] at hPt hY hci hd
  rw [hBB] at hPt hBs hci hd
  rw [hZ] at hci ⊢
  have hPth := Lib.hid hPt
  have smX : ∀ {l : Txs}, (l.length ≤ 16 ∧ ∀ s ∈ l, s.length ≤ 100) → smallX l := fun h => ⟨by have := h.1; omega, fun s hs => by have := h.2 s hs; omega⟩
  have hKn : Hid (∀ (r0 r1 r2 : Slc) (W : World), TxR W W.heap.size r0 M → TxR W W.heap.size r1 B → TxR W W.heap.size r2 Y → Calls Tryz.prog 44 #[.slice r0.1 r0.2.1 r0.2.2, .slice r1.1 r1.2.1 r1.2.2, .slice r2.1 r2.2.1 r2.2.2] W fun e w' => e = .returned (.int .i64 (kindF M B Y : Nat)) ∧ Below W.heap.size W w') := Lib.hid (fun r0 r1 r2 W a1 a2 a3 => kind_anyL r0.1 r0.2.1 r0.2.2 M r1.1 r1.2.1 r1.2.2 B r2.1 r2.2.1 r2.2.2 Y W (smX hM) (smX hBs) (smX hY) a1 a2 a3)
  have hDs : Hid (∀ W, Calls Tryz.prog 43 #[.int .u8 (c.toNat : Int), .int .i64 (kindF M B Y : Nat)] W fun e w' => e = .returned (.int .i64 (d : Nat)) ∧ Below W.heap.size W w') := Lib.hid (fun W => by have := does_any c (kindF M B Y : Nat) W (by have := kind_le (mine := M) (older := B) (yours := Y); unfold inR64; omega); rwa [hd] at this)
  obtain ⟨K, hKK⟩ : ∃ K, kindF M B Y = K := ⟨_, rfl⟩
  rw [hKK] at hKn hDs
  have hShid := Lib.hid hS
  have hB0h := Lib.hid hB0
  have hTk : Hid (∀ (r : Slc) (W : World), Below wr.heap.size wr W → TxR W W.heap.size r Y → Calls Tryz.prog 45 #[putFn Bl, .agg #[.int .i64 (f0 : Int), .int .i64 (t0 : Int)], .slice r.1 r.2.1 r.2.2] W fun e w' => e = .returned (.tuple #[]) ∧ PnPut w0 Bl wr w' v (xs ++ takeD f0 t0 Y)) := Lib.hid (fun r W hW h => by
    have h1 := hY.1
    exact (scTake_any w0 Bl f0 t0 r.1 r.2.1 r.2.2 Y v xs W (hShid.out.up hW) hft (by omega) h (by omega) (fun s hs => by have := hY.2 s hs; omega) (by omega)).mono fun e w' h => ⟨h.1, h.2.ahead hW⟩)
  have hMk : Hid (∀ (bb : Bool) (r : Slc) (Ab : Option Addr) (nb cb : Nat) (rowsb : List Slc) (listsb : List Txs) (W : World), Below wr.heap.size wr W → TxR W W.heap.size r Y → RowsT W W.heap.size Ab nb rowsb listsb → nb ≤ 5 → listsb.flatten ++ eqS :: (Y ++ [yoS]) = laidT bb B Y → Calls Tryz.prog 46 #[putFn Bl, .agg #[.int .i64 (f0 : Int), .int .i64 (t0 : Int)], .slice r.1 r.2.1 r.2.2, .slice Ab nb cb] W fun e w' => e = .returned (.tuple #[]) ∧ PnPut w0 Bl wr w' v (xs ++ bracketD f0 t0 bb B Y)) := Lib.hid (fun bb r Ab nb cb rowsb listsb W hW h hb hn hl => by
    have h1 := hY.1
    have h2 := hBs.1
    have h3 := laid_ln2 bb B Y
    exact (scMarks_any w0 Bl f0 t0 r.1 r.2.1 r.2.2 Y Ab nb cb rowsb listsb (laidT bb B Y) v xs W (hShid.out.up hW) hft (by omega) h hb hn hl (by omega) (laid_small (fun s hs => by have := hBs.2 s hs; omega) (fun s hs => by have := hY.2 s hs; omega)) (by omega)).mono fun e w' h => ⟨h.1, h.2.ahead hW⟩)
  have x0 : W0.cell? ⟨wr.heap.size, 0, none⟩ = some (.bool st) := (cells_of k0 0).trans rfl
  have x1 : W0.cell? ⟨wr.heap.size, 1, none⟩ = some (.int .i64 f) := (cells_of k0 1).trans rfl
  have x2 : W0.cell? ⟨wr.heap.size, 2, none⟩ = some (.int .i64 t) := (cells_of k0 2).trans rfl
  have x3 : W0.cell? ⟨wr.heap.size, 3, none⟩ = some (.slice A6 2 c6) := (cells_of k0 3).trans rfl
  obtain ⟨b6, o6, s6, rfl, hb6, hs6, z0, z1⟩ := hSp.at_ (k := 0) (by decide)
  simp only [List.getElem?_cons_zero, Option.some.injEq] at hs6
  subst hs6
  rw [Nat.zero_mul, Nat.add_zero] at z0 z1
  have hst : Hid (∀ W, Below W0.heap.size W0 W → W.cell? ⟨wr.heap.size, 3, none⟩ = some (.slice (some ⟨b6, o6, none⟩) 2 c6) ∧ W.cell? ⟨b6, o6, none⟩ = some (.int .i64 (f0 : Int)) ∧ W.cell? ⟨b6, o6 + 1, none⟩ = some (.int .i64 (t0 : Int))) := Lib.hid (fun W hW => ⟨(hW.cell (p := ⟨wr.heap.size, 3, none⟩) hlt).trans x3, ((hB0.trans (hW.mono hB0.size)).cell (p := ⟨b6, o6, none⟩) hb6).trans z0, ((hB0.trans (hW.mono hB0.size)).cell (p := ⟨b6, o6 + 1, none⟩) hb6).trans z1⟩)
  have hW0h := Lib.hid hW0
  unfold putFn at hTk hMk ⊢
  clear hW0 hSp hO hR hP hm ho hy hx hB0 k0 hM hY hBs hPt hd hMM hYY hBB hZ smX hKK hb6 z0 z1
  cases st
  rotate_left
  · have hZq := Lib.hid (hci.1 rfl)
    clear hci hS hlt
    go_enter Tryz.func22, Tryz.ntmps22
    go_upto_region 1 with fail
    rw [← hW0h.out]
    go_wp2
    refine bodyPost_ret (results_none rfl _ _ _) rfl ?_
    exact ⟨rfl, by rw [hZq.out, List.append_nil]; exact hShid.out.put.behind hB0h.out⟩
  clear hS hlt
  go_enter Tryz.func22, Tryz.ntmps22
  go_upto_region 1 with fail
  rw [← hW0h.out]
  go_upto_region 3 with (go_at_call 42; refine hPth.out.mono ?_; rintro e w2 ⟨A8, n8, c8, A9, n9, c9, rows9, rfl, hTb, r1, r2, hR9, hb2⟩; have hTbh := Lib.hid hTb; have hR9h := Lib.hid hR9; have hb2h := Lib.hid hb2; clear hTb hR9 hb2)
  have e9 : n9 = 2 := hR9h.out.len.symm
  subst e9
  obtain ⟨b9, o9, A10, n10, c10, dM, rfl, hb9, hdM, hrM, u0, v1, v2, v3⟩ := hR9h.out.at_ (k := 0) (by omega)
  obtain ⟨b9', o9', A11, n11, c11, dY, hA9, hb9', hdY, hrY, u1, v4, v5, v6⟩ := hR9h.out.at_ (k := 1) (by omega)
  cases hA9
  obtain rfl : M = dM := by simpa using hdM
  obtain rfl : Y = dY := by simpa using hdY
  have hTM : Hid (TxR w2 w2.heap.size (A10, n10, c10) M) := Lib.hid ⟨v1, v2, v3⟩
  have hTY : Hid (TxR w2 w2.heap.size (A11, n11, c11) Y) := Lib.hid ⟨v4, v5, v6⟩
  rw [Nat.add_zero] at u0
  obtain ⟨y3, z0, z1⟩ := hst.out w2 hb2h.out
  have hall : Hid (∀ W, Below w2.heap.size w2 W → W.cell? ⟨wr.heap.size, 3, none⟩ = some (.slice (some ⟨b6, o6, none⟩) 2 c6) ∧ W.cell? ⟨b6, o6, none⟩ = some (.int .i64 (f0 : Int)) ∧ W.cell? ⟨b6, o6 + 1, none⟩ = some (.int .i64 (t0 : Int)) ∧ W.cell? ⟨b9, o9, none⟩ = some (.slice A10 n10 c10) ∧ W.cell? ⟨b9, o9 + 1, none⟩ = some (.slice A11 n11 c11)) := Lib.hid (fun W hW => by
    obtain ⟨e1, e2, e3⟩ := hst.out W (hb2h.out.trans (hW.mono hb2h.out.size))
    exact ⟨e1, e2, e3, (hW.cell (p := ⟨b9, o9, none⟩) hb9).trans u0, (hW.cell (p := ⟨b9, o9 + 1, none⟩) hb9).trans u1⟩)
  have hrf : Below w2.heap.size w2 w2 := Below.refl _ _
  clear hdM hdY v1 v2 v3 v4 v5 v6 hrM hrY hb9 hb9' x0 x1 x2 x3
  go_region_held3 (fun wx : World => wx.cell? ⟨wr.heap.size, 3, none⟩ = some (.slice (some ⟨b6, o6, none⟩) 2 c6) ∧ wx.cell? ⟨b6, o6, none⟩ = some (.int .i64 (f0 : Int)) ∧ wx.cell? ⟨b6, o6 + 1, none⟩ = some (.int .i64 (t0 : Int)) ∧ wx.cell? ⟨b9, o9, none⟩ = some (.slice A10 n10 c10) ∧ wx.cell? ⟨b9, o9 + 1, none⟩ = some (.slice A11 n11 c11))
    ((refine hall.out _ ?_; repeat (first | assumption | refine below_drew ?_ | refine below_alloc ?_ _ | refine Below.setCell ?_ (Nat.le_refl _) _)))
    (fail)
  obtain ⟨W3, hW3⟩ : ∃ W3, W3 = (w2.alloc (.cells #[.int .i64 (f0 : Int), .int .i64 (t0 : Int)] 48)).drew := ⟨_, rfl⟩
  rw [← hW3]
  have hB23 : Below w2.heap.size w2 W3 := by rw [hW3]; exact below_drew (below_alloc (Below.refl _ _) _)
  have k3 : W3.heap[w2.heap.size]? = some (.cells #[.int .i64 (f0 : Int), .int .i64 (t0 : Int)] 48 (0, 0)) := by rw [hW3]; exact one_a w2 _
  have hBw : Below wr.heap.size wr W3 := hB0h.out.trans ((hb2h.out.trans (hB23.mono hb2h.out.size)).mono hB0h.out.size)
  have hTM3 := Lib.hid (hTM.out.up hB23)
  have hTY3 := Lib.hid (hTY.out.up hB23)
  have hTB3 := Lib.hid (hTbh.out.up hB23)
  have hlt3 := (Array.getElem?_eq_some_iff.1 k3).1
  have hat : Hid (∀ W, Below W3.heap.size W3 W → Below wr.heap.size wr W ∧ W.cell? ⟨w2.heap.size, 0, none⟩ = some (.int .i64 (f0 : Int)) ∧ W.cell? ⟨w2.heap.size, 1, none⟩ = some (.int .i64 (t0 : Int))) := Lib.hid (fun W hW => by
    have e := (hW.block _ hlt3).trans k3
    exact ⟨hBw.trans (hW.mono hBw.size), (cells_of e 0).trans rfl, (cells_of e 1).trans rfl⟩)
  have hKn3 := Lib.hid (hKn.out (A10, n10, c10) (A8, n8, c8) (A11, n11, c11) W3 hTM3.out hTB3.out hTY3.out)
  clear hW3 hB23 k3 hBw hlt3 hrf y3 z0 z1 u0 u1 hall hst hTM hTY hTbh hKn
  have hbr : Hid (∀ (W : World), Below W3.heap.size W3 W → RowsT ((W.alloc (.cells #[.string ⟨#[124, 124, 124, 124, 124, 124, 124, 32, 79, 76, 68, 69, 82, 10]⟩] 9)).alloc (.cells #[.slice (some ⟨W.heap.size, 0, none⟩) 1 1, .slice A8 n8 c8] 22)) ((W.alloc (.cells #[.string ⟨#[124, 124, 124, 124, 124, 124, 124, 32, 79, 76, 68, 69, 82, 10]⟩] 9)).alloc (.cells #[.slice (some ⟨W.heap.size, 0, none⟩) 1 1, .slice A8 n8 c8] 22)).heap.size (some ⟨W.heap.size + 1, 0, none⟩) 2 [(some ⟨W.heap.size, 0, none⟩, 1, 1), (A8, n8, c8)] [[[124, 124, 124, 124, 124, 124, 124, 32, 79, 76, 68, 69, 82, 10]], B]) := Lib.hid (fun W hW => by
    have htwo := two_a W (.cells #[.string ⟨#[124, 124, 124, 124, 124, 124, 124, 32, 79, 76, 68, 69, 82, 10]⟩] 9) (.cells #[.slice (some ⟨W.heap.size, 0, none⟩) 1 1, .slice A8 n8 c8] 22)
    refine rowsT_of htwo.2 rfl rfl rfl fun k r ss h1 h2 => ?_
    match k, h1, h2 with
    | 0, h1, h2 => simp at h1 h2; subst h1; subst h2; exact txr_of htwo.1 rfl rfl (by decide)
    | 1, h1, h2 => simp at h1 h2; subst h1; subst h2; exact hTB3.out.up (hW.trans ((below_alloc (below_alloc (Below.refl _ _) _) _).mono hW.size))
    | k + 2, h1, h2 => simp at h1)
  have hab : Hid (∀ (W : World), Below W3.heap.size W3 W → Below W3.heap.size W3 ((W.alloc (.cells #[.string ⟨#[124, 124, 124, 124, 124, 124, 124, 32, 79, 76, 68, 69, 82, 10]⟩] 9)).alloc (.cells #[.slice (some ⟨W.heap.size, 0, none⟩) 1 1, .slice A8 n8 c8] 22))) := Lib.hid (fun W hW => below_alloc (below_alloc hW _) _)
  rcases (by omega : d = 0 ∨ d = 1 ∨ d = 2 ∨ d = 3) with rfl | rfl | rfl | rfl
  · have hZq := Lib.hid (hci.2.1 trivial rfl)
    clear hci hdle
    go_wp2_with (first
      | (go_at_call 44; refine hKn3.out.mono ?_; rintro e w4 ⟨rfl, q4⟩; have hB4 := Lib.hid q4; clear q4)
      | (go_at_call 43; refine (hDs.out _).mono ?_; rintro e w5 ⟨rfl, q5⟩; have hB5 := Lib.hid (hB4.out.trans (q5.mono hB4.out.size)); clear q5))
    go_end0
    exact ⟨rfl, by rw [hZq.out, List.append_nil]; exact hShid.out.put.behind (hat.out _ hB5.out).1⟩
  · have hZq := Lib.hid (hci.2.2.1 trivial rfl)
    clear hci hdle
    go_wp2_with (first
      | (go_at_call 44; refine hKn3.out.mono ?_; rintro e w4 ⟨rfl, q4⟩; have hB4 := Lib.hid q4; clear q4)
      | (go_at_call 43; refine (hDs.out _).mono ?_; rintro e w5 ⟨rfl, q5⟩; have hB5 := Lib.hid (hB4.out.trans (q5.mono hB4.out.size)); obtain ⟨p0, p1, p2⟩ := hat.out w5 hB5.out; have hB6 := Lib.hid p0; clear q5 p0)
      | (go_at_call 45; refine (hTk.out (A11, n11, c11) w5 hB6.out (hTY3.out.up hB5.out)).mono ?_; rintro e w6 ⟨rfl, q6⟩; have hQ := Lib.hid q6; clear q6))
    go_end0
    exact ⟨rfl, by rw [hZq.out]; exact hQ.out⟩
  · have hZq := Lib.hid (hci.2.2.2.1 trivial rfl)
    clear hci hdle
    go_wp2_with (first
      | (go_at_call 44; refine hKn3.out.mono ?_; rintro e w4 ⟨rfl, q4⟩; have hB4 := Lib.hid q4; clear q4)
      | (go_at_call 43; refine (hDs.out _).mono ?_; rintro e w5 ⟨rfl, q5⟩; have hB5 := Lib.hid (hB4.out.trans (q5.mono hB4.out.size)); obtain ⟨p0, p1, p2⟩ := hat.out w5 hB5.out; have hB6 := Lib.hid p0; clear q5 p0)
      | (go_at_call 46; refine (hMk.out false (A11, n11, c11) none 0 0 [] [] w5 hB6.out (hTY3.out.up hB5.out) (RowsT.nil _ _ _) (by decide) (laid_false B Y)).mono ?_; rintro e w6 ⟨rfl, q6⟩; have hQ := Lib.hid q6; clear q6))
    go_end0
    exact ⟨rfl, by rw [hZq.out]; exact hQ.out⟩
  · have hZq := Lib.hid (hci.2.2.2.2 trivial rfl)
    clear hci hdle
    go_wp2_with (first
      | (go_at_call 44; refine hKn3.out.mono ?_; rintro e w4 ⟨rfl, q4⟩; have hB4 := Lib.hid q4; clear q4)
      | (go_at_call 43; refine (hDs.out _).mono ?_; rintro e w5 ⟨rfl, q5⟩; have hB5 := Lib.hid (hB4.out.trans (q5.mono hB4.out.size)); obtain ⟨p0, p1, p2⟩ := hat.out w5 hB5.out; have hB6 := Lib.hid p0; clear q5 p0)
      | (go_at_call 46; refine (hMk.out true (A11, n11, c11) _ 2 2 _ _ _ (hat.out _ (hab.out w5 hB5.out)).1 (hTY3.out.up (hab.out w5 hB5.out)) (hbr.out w5 hB5.out) (by decide) (laid_true B Y)).mono ?_; rintro e w6 ⟨rfl, q6⟩; have hQ := Lib.hid q6; clear q6))
    go_end0
    exact ⟨rfl, by rw [hZq.out]; exact hQ.out⟩
end Go.Proofs.YtoopdgohdeddoaaGreatDoor
/- Proved here: the contract of package lcs' measureRow: one row of the reckoning, out of the row behind it. -/
namespace Go.Proofs.YtoopdgohdeddoaaGreatDoor
open Go.RowKit
set_option linter.unusedVariables false

theorem infoBool : (Tryz.prog.info? 4).map (fun i => (i.zero, i.size, i.bytes)) = some (some (.bool false), 1, 1) := by kernel_rfl

/-- Whether a's place i is what is skipped, where i and j are not the same. -/
def skipAt (a b : List Int) (i j : Nat) : Bool := decide (lcsAt a b i (j + 1) ≤ lcsAt a b (i + 1) j)

/-- One row of the reckoning, as far as it has come: from J on. -/
structure RowIn (w wr : World) (P Q n' i J : Nat) (a b : List Int) (g : Nat → Int) : Prop where
  row : wr.rowIs P 3 (n' + 1) (fun t => .int .i64 (if J ≤ t then (lcsAt a b i t : Int) else g t))
  next : wr.rowIs Q 3 (n' + 1) (fun t => .int .i64 (lcsAt a b (i + 1) t))
  skips : wr.rowIs w.heap.size 4 n' (fun t => .bool (decide (J ≤ t) && skipAt a b i t))
  but : But (fun k => k = P) w wr

section
variable {w wr : World} {P Q n' i q J : Nat} {a b : List Int} {g : Nat → Int}
theorem RowIn.drew (h : RowIn w wr P Q n' i J a b g) : RowIn w wr.drew P Q n' i J a b g := ⟨h.row, h.next, h.skips, ⟨h.but.os, h.but.tape, h.but.output, h.but.size, h.but.block⟩⟩
theorem RowIn.step (hPw : P < w.heap.size) (hQw : Q < w.heap.size) (hPQ : P ≠ Q) (h : RowIn w wr P Q n' i (q + 1) a b g) {s : Bool} {v : Nat} (hs : s = skipAt a b i q) (hv : v = lcsAt a b i q) :
    RowIn w ((wr.setCell ⟨w.heap.size, q, none⟩ (.bool s)).setCell ⟨P, q, none⟩ (.int .i64 v)) P Q n' i q a b g := by
  subst hs
  subst hv
  refine ⟨?_, ?_, ?_, ?_⟩
  · refine ((h.row.setOther (a := ⟨w.heap.size, q, none⟩) (by show P ≠ w.heap.size; omega) _).set q _).congr fun t _ => ?_
    by_cases e : t = q
    · subst e; simp
    · rw [if_neg e]
      by_cases h1 : q + 1 ≤ t
      · rw [if_pos h1, if_pos (by omega)]
      · rw [if_neg h1, if_neg (by omega)]
  · exact (h.next.setOther (a := ⟨w.heap.size, q, none⟩) (by show Q ≠ w.heap.size; omega) _).setOther (a := ⟨P, q, none⟩) (fun e => hPQ e.symm) _
  · refine ((h.skips.set q _).setOther (a := ⟨P, q, none⟩) (by show w.heap.size ≠ P; omega) _).congr fun t _ => ?_
    by_cases e : t = q
    · subst e; simp
    · rw [if_neg e]
      by_cases h1 : q + 1 ≤ t
      · simp [h1, show q ≤ t by omega]
      · simp [h1, show ¬ q ≤ t by omega]
  · have h1 := But.setCell (F := fun k => k = w.heap.size) wr (p := ⟨w.heap.size, q, none⟩) rfl (.bool (skipAt a b i q))
    have h2 := But.setCell (F := fun k => k = P) (wr.setCell ⟨w.heap.size, q, none⟩ (.bool (skipAt a b i q))) (p := ⟨P, q, none⟩) rfl (.int .i64 (lcsAt a b i q))
    exact (h.but.trans h1 fun k e => .inr (by omega)).trans h2 fun k e => .inl e
end

/-- What measureRow leaves. -/
def RowOut (w w' : World) (e : Ending) (P n' i : Nat) (a b : List Int) : Prop :=
  e = .returned (.slice (some ⟨w.heap.size, 0, none⟩) n' n') ∧ w'.rowIs P 3 (n' + 1) (fun t => .int .i64 (lcsAt a b i t)) ∧ w'.rowIs w.heap.size 4 n' (fun t => .bool (skipAt a b i t)) ∧ But (fun k => k = P) w w'

set_option maxRecDepth 100000 in
set_option maxHeartbeats 2000000 in
theorem row_any (A' : Option Addr) (n' c' B' P Q cP cQ i : Nat) (x : Int) (a b : List Int) (g : Nat → Int) (w : World) (hn' : n' ≤ 2000) (hla : a.length ≤ 2000) (hx : a[i]? = some x) (hA' : Nums w B' A' n' b) (hB' : B' ≤ P) (hPQ : P ≠ Q)
    (hP : w.rowIs P 3 (n' + 1) (fun t => .int .i64 (g t))) (hg : g n' = 0) (hQ : w.rowIs Q 3 (n' + 1) (fun t => .int .i64 (lcsAt a b (i + 1) t))) :
    Calls Tryz.prog 114 #[.int .i64 x, .slice A' n' c', .slice (some ⟨P, 0, none⟩) (n' + 1) cP, .slice (some ⟨Q, 0, none⟩) (n' + 1) cQ] w fun e w' => RowOut w w' e P n' i a b := by
  have hl' := hA'.len
  have hPw := hP.lt
  have hQw := hQ.lt
  have hmk := run_make_row' (P := Tryz.prog) 157 4 (.bool false) 1 Tryz.underlying157 infoBool rfl .i64 .i64 n' (by omega) (by omega)
  have h0 : RowIn w (w.alloc (.cells (madeCells #[.bool false] n') 4)) P Q n' i n' a b g := by
    refine ⟨(hP.alloc _).congr fun t ht => ?_, hQ.alloc _, (World.rowIs_made w (.bool false) n' 4).congr fun t ht => ?_, .alloc w _⟩
    · split
      · obtain rfl : t = n' := by omega
        rw [hg, lcsAt_end_right (by omega)]; rfl
      · rfl
    · simp [show ¬ n' ≤ t by omega]
  have h0' := Lib.hid h0
  have hPQ' := Lib.hid hPQ
  clear h0 hP hQ hg hPQ
  go_enter Tryz.func114, Tryz.ntmps114
  go_wp2
  go_loopw [10, 42, 58] (fun sj _ _ wr => ∃ J : Nat, J ≤ n' ∧ sj = .int .i64 ((J : Int) - 1) ∧ RowIn w wr P Q n' i J a b g) (fun sj _ _ _ => (intOf sj + 1).toNat)
  case atStart => exact ⟨n', Nat.le_refl _, rfl, h0'.out⟩
  case round =>
    obtain ⟨J, hJ, rfl, hR⟩ := hrel
    obtain ⟨wo, rfl⟩ : ∃ wo : World, wo = wr := ⟨_, rfl⟩
    clear h0' hmk
    rcases J with _ | q
    · go_wp2
      go_ret
      exact ⟨rfl, hR.row.congr fun t _ => by simp, hR.skips.congr fun t _ => by simp, hR.but⟩
    · have hq : q < n' := by omega
      have hiq : (((q + 1 : Nat) : Int) - 1) = (q : Int) := by omega
      rw [hiq]
      clear hiq
      have hBu := hR.but
      obtain ⟨bb, ob, y, rfl, hbb, hy, hyb⟩ := hA'.at_ (k := q) hq
      have cy0 : wo.cell? ⟨bb, ob + q, none⟩ = some (.int .i64 y) := (World.cell?_of_block (w := w) (hBu.block bb (by omega) (by omega))).trans hyb
      have c1 := hR.next.cell (i := q) (by omega)
      have c3 := hR.next.cell (i := q + 1) (by omega)
      have c2 := hR.row.cell (i := q + 1) (by omega)
      rw [if_pos (Nat.le_refl _)] at c2
      have f0 := hR.row.frozen q
      have f1 := hR.skips.frozen q
      obtain ⟨u0, cu0⟩ : ∃ u, wo.cell? ⟨P, q, none⟩ = some u := ⟨_, hR.row.cell (by omega)⟩
      obtain ⟨u1, cu1⟩ : ∃ u, wo.cell? ⟨w.heap.size, q, none⟩ = some u := ⟨_, hR.skips.cell hq⟩
      have l1 := lcsAt_le_left a b (i + 1) q
      have l2 := lcsAt_le_left a b i (q + 1)
      have l3 := lcsAt_le_left a b (i + 1) (q + 1)
      have hst := fun s v hs hv => hR.step (s := s) (v := v) hPw hQw hPQ'.out hs hv
      have hsk : skipAt a b i q = decide (lcsAt a b i (q + 1) ≤ lcsAt a b (i + 1) q) := rfl
      have hsame := fun h : x = y => lcsAt_same hx (h ▸ hy)
      have hother := lcsAt_other hx hy
      obtain ⟨v1, hv1⟩ : ∃ v, v = lcsAt a b (i + 1) q := ⟨_, rfl⟩
      obtain ⟨v2, hv2⟩ : ∃ v, v = lcsAt a b i (q + 1) := ⟨_, rfl⟩
      obtain ⟨v3, hv3⟩ : ∃ v, v = lcsAt a b (i + 1) (q + 1) := ⟨_, rfl⟩
      rw [← hv1] at c1 l1 hother hsk
      rw [← hv2] at c2 l2 hother hsk
      rw [← hv3] at c3 l3 hsame
      have hbne : bb ≠ P ∧ bb ≠ w.heap.size ∧ Q ≠ w.heap.size ∧ P ≠ w.heap.size := ⟨by omega, by omega, by omega, by omega⟩
      obtain ⟨hne1, hne2, hne3, hne4⟩ := hbne
      have hne5 := hPQ'.out
      have hne5' := hne5.symm
      have hst' := Lib.hid hst
      have hsk' := Lib.hid hsk
      have hsame' := Lib.hid hsame
      have hother' := Lib.hid hother
      have hBu' := Lib.hid hBu
      clear hv1 hv2 hv3 hyb hR hst hsk hsame hother hBu
      have i1 : (0 : Int) ≤ (q : Int) := by omega
      have i2 : (q : Int) < (n' : Int) := by omega
      by_cases hxy : x = y
      · have hb : (x == y) = true := by simpa using hxy
        have hL := Lib.hid (hsame'.out hxy)
        clear hxy
        by_cases hv : v2 ≤ v1
        · have hvi : (v2 : Int) ≤ (v1 : Int) := by omega
          go_wp2
          go_region
          go_wp2
          go_roundw
          case rel => exact ⟨q, by omega, by go_num, (by have := (hst'.out true (v3 + 1) (by rw [hsk'.out]; simp [hv]) (by rw [hL.out])).drew; push_cast at this; exact this)⟩
          case measure => simp [intOf]
        · have hvi : ¬ (v2 : Int) ≤ (v1 : Int) := by omega
          go_wp2
          go_region
          go_wp2
          go_roundw
          case rel => exact ⟨q, by omega, by go_num, (by have := (hst'.out false (v3 + 1) (by rw [hsk'.out]; simp [hv]) (by rw [hL.out])).drew; push_cast at this; exact this)⟩
          case measure => simp [intOf]
      · have hb : (x == y) = false := by simpa using hxy
        have hL := Lib.hid (hother'.out hxy)
        clear hxy
        by_cases hv : v2 ≤ v1
        · have hvi : (v2 : Int) ≤ (v1 : Int) := by omega
          go_wp2
          go_region
          go_wp2
          go_roundw
          case rel => exact ⟨q, by omega, by go_num, (hst'.out true v1 (by rw [hsk'.out]; simp [hv]) (by rw [hL.out]; omega)).drew⟩
          case measure => simp [intOf]
        · have hvi : ¬ (v2 : Int) ≤ (v1 : Int) := by omega
          go_wp2
          go_region
          go_wp2
          go_roundw
          case rel => exact ⟨q, by omega, by go_num, (hst'.out false v2 (by rw [hsk'.out]; simp [hv]) (by rw [hL.out]; omega)).drew⟩
          case measure => simp [intOf]
end Go.Proofs.YtoopdgohdeddoaaGreatDoor
