/- Proved here: texts joined: UnPart. -/
import Derived.Test.YtcpopnhnihbofaaDoorBd18
import Derived.Test.YtcpopnhnihbofaaDoorBd19
import Derived.Deep.DeepCutAuto
import Derived.Deep.LoopGhost
import Derived.RegionTactic
/- Proved here: contracts of the document's own answers of layer 13: part, outside. -/
namespace Go.Proofs.YtcpopnhnihbofaaDoor
open Go.RowKit
set_option linter.unusedVariables false
set_option maxRecDepth 100000

theorem line_ln (t : Tx) : lineB t = lnB t := by
  unfold lnB
  rw [may_eq, rmay_last (ss := [t]) (k := 0) (n := 1) (t := t) rfl rfl rfl rfl]
  cases he : endedB t with
  | false => simp [lineB, he]
  | true =>
    have h10 : (10 : UInt8) ∈ t := by
      unfold endedB at he
      rw [beq_iff_eq] at he
      exact List.mem_of_getLast? he
    have h1 : (nlN t == 0) = false := by
      rw [beq_eq_false_iff_ne]
      unfold nlN
      have := List.count_pos_iff.2 h10
      omega
    rw [h1]
    simp
theorem line_call (t : Tx) (W : World) (ht : t.length ≤ 1000000000) : ∀ x : Grew W, Calls Tryd.prog 27 #[.string (str t)] x.w fun e w'' => e = .returned (.bool (lnB t)) ∧ ∃ y : Grew W, w'' = y.w :=
  grew_call fun w' _ => (Line_any (str t) w' (by rw [str_size]; unfold maxLen; omega)).mono fun e w'' h => ⟨by rw [h.1, str_data, line_ln], by rw [← h.2]; exact Below.refl _ _⟩

/-- A state is stored. -/
theorem below_store5 {w W : World} {L : Nat} (h : Below w.heap.size w W) (hL : w.heap.size ≤ L) (u0 u1 u2 u3 u4 : Value) : Below w.heap.size w (((((W.setCell ⟨L, 0, none⟩ u0).setCell ⟨L, 1, none⟩ u1).setCell ⟨L, 2, none⟩ u2).setCell ⟨L, 3, none⟩ u3).setCell ⟨L, 4, none⟩ u4) := by
  have h5 := ((((But.one W L 0 u0).trans (But.one _ L 1 u1) fun k e => .inl e).trans (But.one _ L 2 u2) fun k e => .inl e).trans (But.one _ L 3 u3) fun k e => .inl e).trans (But.one _ L 4 u4) fun k e => .inl e
  exact h.trans (h5.below h.size (by rintro k rfl; exact hL))

/-- Where a part is told. -/
def PartOut (w w' : World) (e : Ending) (A : Option Addr) (n c : Nat) (l : Txs) (long a : Nat) (style : Int) (d : Nat × Bool) : Prop := ∃ r : Slc, e = .returned (.tuple #[.agg #[.slice A n c, .int .i64 (long : Int), .int .i64 ((a + d.1 : Nat) : Int), .int .i64 style, .int .i64 (if d.2 = true then ((a + d.1 : Nat) : Int) + 1 else 0)], .slice r.1 r.2.1 r.2.2]) ∧ ((d.2 = true → r = (none, 0, 0)) ∧ (d.2 = false → TxR w w.heap.size r ((l.drop a).take d.1) ∧ Near A r)) ∧ Below w.heap.size w w'

set_option maxHeartbeats 4000000 in
theorem part_any (A : Option Addr) (n c : Nat) (l : Txs) (long a : Nat) (style : Int) (w : World) (hT : Txl w (A, n, c) l) (ha : a ≤ n) :
    Calls Tryd.prog 40 #[.agg #[.slice A n c, .int .i64 (long : Int), .int .i64 (a : Int), .int .i64 style, .int .i64 0]] w fun e w' => PartOut w w' e A n c l long a style (partD long (l.drop a)) := by
  have hln := hT.st.len
  dsimp only at hln
  have hn1 : n ≤ 1000000000 := by have := hT.few; omega
  have hlnh := Lib.hid hln
  have hTh := Lib.hid hT
  have hL := Lib.hid (StAt.new w (A, n, c) long a style 0)
  have hb0 := below_alloc (Below.refl w.heap.size w) (.cells #[.slice A n c, .int .i64 (long : Int), .int .i64 (a : Int), .int .i64 style, .int .i64 0] 47)
  have hL2 : Hid (StAt ((w.alloc (.cells #[.slice A n c, .int .i64 (long : Int), .int .i64 (a : Int), .int .i64 style, .int .i64 0] 47)).alloc (.cells #[.slice none 0 0, .int .i64 0, .int .i64 0, .int .i64 0, .int .i64 0] 47)) w.heap.size (A, n, c) long a style 0 ∧ StAt ((w.alloc (.cells #[.slice A n c, .int .i64 (long : Int), .int .i64 (a : Int), .int .i64 style, .int .i64 0] 47)).alloc (.cells #[.slice none 0 0, .int .i64 0, .int .i64 0, .int .i64 0, .int .i64 0] 47)) (w.heap.size + 1) (none, 0, 0) 0 0 0 0 ∧ Below w.heap.size w ((w.alloc (.cells #[.slice A n c, .int .i64 (long : Int), .int .i64 (a : Int), .int .i64 style, .int .i64 0] 47)).alloc (.cells #[.slice none 0 0, .int .i64 0, .int .i64 0, .int .i64 0, .int .i64 0] 47))) :=
    Lib.hid ⟨hL.out.up (below_alloc (Below.refl _ _) _), by have := StAt.new (w.alloc (.cells #[.slice A n c, .int .i64 (long : Int), .int .i64 (a : Int), .int .i64 style, .int .i64 0] 47)) (none, 0, 0) 0 0 0 0; rwa [push_size] at this, below_alloc hb0 _⟩
  obtain ⟨D, hD⟩ : ∃ D, partD long (l.drop a) = D := ⟨_, rfl⟩
  rw [hD]
  have hDh := Lib.hid hD
  clear hln hT hL hb0 hD
  go_enter Tryd.func40, Tryd.ntmps40
  go_wp2
  go_loopg [8] (n - a) (fun gk _ wr => ∃ k : Nat, a ≤ k ∧ k ≤ n ∧ gk = n - k ∧ Hid (StAt wr w.heap.size (A, n, c) long k style 0 ∧ StAt wr (w.heap.size + 1) (none, 0, 0) 0 0 0 0 ∧ Below w.heap.size w wr) ∧ Hid (D = ((partD long (l.drop k)).1 + (k - a), (partD long (l.drop k)).2)))
  case atStart => exact ⟨a, Nat.le_refl _, ha, rfl, hL2, Lib.hid (by rw [hDh.out]; simp)⟩
  case round =>
    obtain ⟨k, hak, hkn, hgk, hS, hD2⟩ := hrel
    obtain ⟨wo, rfl⟩ : ∃ wo : World, wo = wr := ⟨_, rfl⟩
    clear hL2
    obtain ⟨x0, x1, x2, x3, x4, z0, z1, z2, z3, z4⟩ := hS.out.1.cells
    obtain ⟨y0, y1, y2, y3, y4, v0, v1, v2, v3, v4⟩ := hS.out.2.1.cells
    have hl0 := hS.out.1.lt
    have hl1 := hS.out.2.1.lt
    by_cases hlt : k < n
    · obtain ⟨b, o, t, hAe, hb, ht, hc⟩ := (hTh.out.up hS.out.2.2).st.at_ (k := k) hlt
      dsimp only at hAe
      have htl : t.length ≤ 1000000000 := hTh.out.txt t (List.mem_of_getElem? ht)
      have hdr := Lib.hid (drop_at ht)
      have i1 : (0 : Int) ≤ (k : Int) := by omega
      have i2 : (k : Int) < (n : Int) := by omega
      have hbn : b < wo.heap.size := hb
      have g0 : ∀ x : Grew wo, x.w.cell? ⟨w.heap.size, 0, none⟩ = some (.slice A n c) := fun x => (x.below.cell (p := ⟨w.heap.size, 0, none⟩) hl0).trans x0
      have g1 : ∀ x : Grew wo, x.w.cell? ⟨w.heap.size, 1, none⟩ = some (.int .i64 (long : Int)) := fun x => (x.below.cell (p := ⟨w.heap.size, 1, none⟩) hl0).trans x1
      have g2 : ∀ x : Grew wo, x.w.cell? ⟨w.heap.size, 2, none⟩ = some (.int .i64 (k : Int)) := fun x => (x.below.cell (p := ⟨w.heap.size, 2, none⟩) hl0).trans x2
      have g3 : ∀ x : Grew wo, x.w.cell? ⟨w.heap.size, 3, none⟩ = some (.int .i64 style) := fun x => (x.below.cell (p := ⟨w.heap.size, 3, none⟩) hl0).trans x3
      have g4 : ∀ x : Grew wo, x.w.cell? ⟨w.heap.size, 4, none⟩ = some (.int .i64 0) := fun x => (x.below.cell (p := ⟨w.heap.size, 4, none⟩) hl0).trans x4
      have g5 : ∀ x : Grew wo, x.w.cell? ⟨b, o + k, none⟩ = some (.string (str t)) := fun x => (x.below.cell (p := ⟨b, o + k, none⟩) hbn).trans hc
      have hLn := Lib.hid (line_call t wo htl)
      have hMk : Hid (∀ x : Grew wo, Calls Tryd.prog 39 #[.agg #[.slice A n c, .int .i64 (long : Int), .int .i64 (k : Int), .int .i64 style, .int .i64 0], .string (str t)] x.w fun e w'' => e = .returned (.bool (decide (long ≤ runN t))) ∧ ∃ y : Grew wo, w'' = y.w) := Lib.hid (grew_call fun w' _ => mark13_any (A, n, c) long k style 0 t w' (by unfold maxLen; omega))
      obtain ⟨lb, hlb⟩ : ∃ lb, lnB t = lb := ⟨_, rfl⟩
      obtain ⟨mb, hmb⟩ : ∃ mb, decide (long ≤ runN t) = mb := ⟨_, rfl⟩
      rw [hlb] at hLn
      rw [hmb] at hMk
      haveI hne5 : Nonempty (Grew wo) := grew_here wo
      have hlbh := Lib.hid hlb
      have hmbh := Lib.hid hmb
      subst hAe
      have htlh := Lib.hid htl
      have hch := Lib.hid hc
      clear hlb hmb ht htl hc
      cases lb
      · go_wp2
        refine quiet_grew (by kernel_rfl) (by kernel_rfl) ?_
        repeat (go_big_quiet_step (first | (go_at_call 27; exact hLn.out _) | (go_at_call 39; exact hMk.out _)))
        refine wpQuiet_nil ?_
        rintro wx ⟨⟨wz, hwx⟩, hwz⟩
        have hwz' : wx = wz := hwz
        subst hwz'
        clear hwz g0 g1 g2 g3 g4 g5 x0 x1 x2 x3 x4 y0 y1 y2 y3 y4 z0 z1 z2 z3 z4 v0 v1 v2 v3 v4
        obtain ⟨x0, x1, x2, x3, x4, z0, z1, z2, z3, z4⟩ := (hS.out.1.up hwx).cells
        obtain ⟨y0, y1, y2, y3, y4, v0, v1, v2, v3, v4⟩ := (hS.out.2.1.up hwx).cells
        have hBx := Lib.hid (hS.out.2.2.trans (hwx.mono hS.out.2.2.size))
        have hc : wx.cell? ⟨b, o + k, none⟩ = some (.string (str t)) := (hwx.cell (p := ⟨b, o + k, none⟩) hbn).trans hch.out
        have hD3 : Hid (D = (k - a, true)) := Lib.hid (by rw [hD2.out, hdr.out, partD_bad hlbh.out]; simp)
        obtain ⟨Am, m, q, hsl, hTm, hmm, hnr⟩ := slice_mid (k := k) (show TxR w w.heap.size (some ⟨b, o, none⟩, n, c) l from ⟨hTh.out.nc, hTh.out.cm, hTh.out.st⟩) hak hkn
        have hka : ((a + (k - a) : Nat) : Int) = (k : Int) := by congr 1; omega
        have hkn2 : ((k : Int) == (n : Int)) = false := by rw [beq_eq_false_iff_ne]; omega
        have hLx := Lib.hid ((Line_any (str t) wx (by rw [str_size]; have := htlh.out; unfold maxLen; omega)).mono (R' := fun e w'' => e = .returned (.bool false) ∧ w'' = wx) fun e w'' h => ⟨by rw [h.1, str_data, line_ln, hlbh.out], h.2.symm⟩)
        have hBd := Lib.hid (fun W => bad_any (some ⟨b, o, none⟩, n, c) long style 0 k W (by omega))
        have hY := Lib.hid (hS.out.2.1.up hwx)
        clear y0 y1 y2 y3 y4 v0 v1 v2 v3 v4 hTm hnr
        go_wp2_with (first
          | (go_at_call 27; refine hLx.out.mono ?_; rintro e w2 ⟨rfl, hw2⟩; subst hw2)
          | (go_at_call 22; refine (hBd.out _).mono ?_; rintro e w3 ⟨rfl, hb3⟩; obtain ⟨y0, y1, y2, y3, y4, v0, v1, v2, v3, v4⟩ := (hY.out.up hb3).cells; have hB3 := Lib.hid (hBx.out.trans (hb3.mono hBx.out.size)); clear hb3))
        refine bodyPost_ret (v := .tuple #[.agg #[.slice (some ⟨b, o, none⟩) n c, .int .i64 (long : Int), .int .i64 (k : Int), .int .i64 style, .int .i64 ((k : Int) + 1)], .slice none 0 0]) (by simp [results, Tryd.results40, go_sem, World.cell?_setCell_same', y0, y1, y2, y3, y4]) rfl ?_
        rw [hD3.out]
        exact ⟨(none, 0, 0), by rw [hka]; rfl, ⟨fun _ => rfl, fun h => Bool.noConfusion h⟩, below_store5 hB3.out (by omega) _ _ _ _ _⟩
      · cases mb
        · go_wp2
          refine quiet_grew (by kernel_rfl) (by kernel_rfl) ?_
          repeat (go_big_quiet_step (first | (go_at_call 27; exact hLn.out _) | (go_at_call 39; exact hMk.out _)))
          refine wpQuiet_nil ?_
          rintro wx ⟨⟨wz, hwx⟩, hwz⟩
          have hwz' : wx = wz := hwz
          subst hwz'
          clear hwz g0 g1 g2 g3 g4 g5 x0 x1 x2 x3 x4 y0 y1 y2 y3 y4 z0 z1 z2 z3 z4 v0 v1 v2 v3 v4
          obtain ⟨x0, x1, x2, x3, x4, z0, z1, z2, z3, z4⟩ := (hS.out.1.up hwx).cells
          obtain ⟨y0, y1, y2, y3, y4, v0, v1, v2, v3, v4⟩ := (hS.out.2.1.up hwx).cells
          have hBx := Lib.hid (hS.out.2.2.trans (hwx.mono hS.out.2.2.size))
          have hc : wx.cell? ⟨b, o + k, none⟩ = some (.string (str t)) := (hwx.cell (p := ⟨b, o + k, none⟩) hbn).trans hch.out
          have hD3 := Lib.hid (show D = ((partD long (l.drop (k + 1))).1 + (k + 1 - a), (partD long (l.drop (k + 1))).2) from by
            rw [hD2.out, hdr.out, partD_line hlbh.out (of_decide_eq_false hmbh.out)]
            simp
            omega)
          have hkw : IntKind.i64.wrap ((k : Int) + 1) = (k : Int) + 1 := IntWalk.i64_in _ (by omega)
          clear y0 y1 y2 y3 y4 v0 v1 v2 v3 v4
          go_wp2
          go_roundg (n - (k + 1))
          case measure => omega
          case rel =>
            refine ⟨k + 1, by omega, by omega, rfl, Lib.hid ⟨?_, ?_, ?_⟩, hD3⟩
            · have := (hS.out.1.up hwx).setAt ((k : Int) + 1)
              exact_mod_cast this
            · exact StAt.but (hS.out.2.1.up hwx) (But.one _ _ _ _) (by omega)
            · exact hBx.out.trans ((But.one _ _ _ _).below hBx.out.size (by rintro k rfl; exact Nat.le_refl _))
        · go_wp2
          refine quiet_grew (by kernel_rfl) (by kernel_rfl) ?_
          repeat (go_big_quiet_step (first | (go_at_call 27; exact hLn.out _) | (go_at_call 39; exact hMk.out _)))
          refine wpQuiet_nil ?_
          rintro wx ⟨⟨wz, hwx⟩, hwz⟩
          have hwz' : wx = wz := hwz
          subst hwz'
          clear hwz g0 g1 g2 g3 g4 g5 x0 x1 x2 x3 x4 y0 y1 y2 y3 y4 z0 z1 z2 z3 z4 v0 v1 v2 v3 v4
          obtain ⟨x0, x1, x2, x3, x4, z0, z1, z2, z3, z4⟩ := (hS.out.1.up hwx).cells
          obtain ⟨y0, y1, y2, y3, y4, v0, v1, v2, v3, v4⟩ := (hS.out.2.1.up hwx).cells
          have hBx := Lib.hid (hS.out.2.2.trans (hwx.mono hS.out.2.2.size))
          have hc : wx.cell? ⟨b, o + k, none⟩ = some (.string (str t)) := (hwx.cell (p := ⟨b, o + k, none⟩) hbn).trans hch.out
          have hD3 : Hid (D = (k - a, false)) := Lib.hid (by rw [hD2.out, hdr.out, partD_mark hlbh.out (of_decide_eq_true hmbh.out)]; simp)
          obtain ⟨Am, m, q, hsl, hTm, hmm, hnr⟩ := slice_mid (k := k) (show TxR w w.heap.size (some ⟨b, o, none⟩, n, c) l from ⟨hTh.out.nc, hTh.out.cm, hTh.out.st⟩) hak hkn
          have hTmh := Lib.hid hTm
          have hnrh := Lib.hid hnr
          have hka : ((a + (k - a) : Nat) : Int) = (k : Int) := by congr 1; omega
          have hkn2 : ((k : Int) == (n : Int)) = false := by rw [beq_eq_false_iff_ne]; omega
          have hLx := Lib.hid ((Line_any (str t) wx (by rw [str_size]; have := htlh.out; unfold maxLen; omega)).mono (R' := fun e w'' => e = .returned (.bool true) ∧ w'' = wx) fun e w'' h => ⟨by rw [h.1, str_data, line_ln, hlbh.out], h.2.symm⟩)
          clear hTm hnr
          go_wp2_with (go_at_call 27; refine hLx.out.mono ?_; rintro e w2 ⟨rfl, hw2⟩; subst hw2)
          refine bodyPost_ret (v := .tuple #[.agg #[.slice (some ⟨b, o, none⟩) n c, .int .i64 (long : Int), .int .i64 (k : Int), .int .i64 style, .int .i64 0], .slice Am m q]) (by simp [results, Tryd.results40, go_sem, World.cell?_setCell_same', y0, y1, y2, y3, y4]) rfl ?_
          rw [hD3.out]
          exact ⟨(Am, m, q), by rw [hka]; rfl, ⟨fun h => Bool.noConfusion h, fun _ => ⟨hTmh.out, hnrh.out⟩⟩, below_store5 hBx.out (by omega) _ _ _ _ _⟩
    · obtain rfl : k = n := by omega
      have hD3 : Hid (D = (k - a, true)) := Lib.hid (by rw [hD2.out, List.drop_eq_nil_iff.2 (by rw [hlnh.out]; exact Nat.le_refl _)]; simp [partD])
      obtain ⟨Am, m, q, hsl, hTm, hmm, hnr⟩ := slice_mid (k := k) (show TxR w w.heap.size (A, k, c) l from ⟨hTh.out.nc, hTh.out.cm, hTh.out.st⟩) hak (Nat.le_refl k)
      have hka : ((a + (k - a) : Nat) : Int) = (k : Int) := by congr 1; omega
      have hkk : ((k : Int) == (k : Int)) = true := by simp
      have hBd := Lib.hid (fun W => bad_any (A, k, c) long style 0 k W (by omega))
      have hY := hS.out.2.1
      have hYh := Lib.hid hY
      have hnl : decide ((k : Int) < (k : Int)) = false := by simp
      clear y0 y1 y2 y3 y4 v0 v1 v2 v3 v4 hTm hnr hY
      go_wp2
      go_quiet (fail)
      obtain ⟨wq, hwq⟩ : ∃ wq, wq = wo.drewN nq := ⟨_, rfl⟩
      rw [← hwq]
      have hbq : Below wo.heap.size wo wq := by rw [hwq]; exact below_drewN (Below.refl _ _) _
      obtain ⟨x0, x1, x2, x3, x4, z0, z1, z2, z3, z4⟩ := (hS.out.1.up hbq).cells
      have hYq := Lib.hid (hYh.out.up hbq)
      have hBq := Lib.hid (hS.out.2.2.trans (hbq.mono hS.out.2.2.size))
      clear hwq hbq
      go_wp2_with (go_at_call 22; refine (hBd.out _).mono ?_; rintro e w3 ⟨rfl, hb3⟩; obtain ⟨y0, y1, y2, y3, y4, v0, v1, v2, v3, v4⟩ := (hYq.out.up hb3).cells; have hB3 := Lib.hid (hBq.out.trans (hb3.mono hBq.out.size)); clear hb3)
      refine bodyPost_ret (v := .tuple #[.agg #[.slice A k c, .int .i64 (long : Int), .int .i64 (k : Int), .int .i64 style, .int .i64 ((k : Int) + 1)], .slice none 0 0]) (by simp [results, Tryd.results40, go_sem, World.cell?_setCell_same', y0, y1, y2, y3, y4]) rfl ?_
      rw [hD3.out]
      exact ⟨(none, 0, 0), by rw [hka]; rfl, ⟨fun _ => rfl, fun h => Bool.noConfusion h⟩, below_store5 hB3.out (by omega) _ _ _ _ _⟩
end Go.Proofs.YtcpopnhnihbofaaDoor
