/- Proved here: texts joined: AlignCut. -/
import Derived.Test.YtoopdgohdeddoaaGreatDoorBs38
import Derived.RegionTactic
import Derived.Deep.RegionWith
import Derived.Deep.CutRange
import Derived.Deep.DeepCutAuto
import Derived.StillTailTactics
import Derived.Laws.EntriesVeiled
import Derived.Outline
/- Proved here: the contracts of package align's empty and behind. -/
namespace Go.Proofs.YtoopdgohdeddoaaGreatDoor
open Go.RowKit
set_option linter.unusedVariables false

set_option maxHeartbeats 1000000 in
theorem aEmpty_any (st : Bool) (f t : Int) (ss : List Sp) (A : Option Addr) (n c B : Nat) (w : World) (hn : n ≤ 16) (hB : B ≤ w.heap.size) (hft : f ≤ t) (hA : Spans w B A n ss) :
    Calls Tryz.prog 68 #[.agg #[.bool st, .int .i64 f, .int .i64 t, .slice A n c]] w fun e w' => e = .returned (.bool (emptyB (st, (f, t), ss))) ∧ Below w.heap.size w w' := by
  have hl := hA.len
  have hA1 : Spans (w.alloc (.cells #[.bool st, .int .i64 f, .int .i64 t, .slice A n c] 51)) B A n ss := hA.keep fun p hp => World.cell?_alloc_lt _ _ p (by omega)
  have hb1 : Below w.heap.size w (w.alloc (.cells #[.bool st, .int .i64 f, .int .i64 t, .slice A n c] 51)) := (Below.refl _ _).alloc (Nat.le_refl _) _
  have hc1 : (w.alloc (.cells #[.bool st, .int .i64 f, .int .i64 t, .slice A n c] 51)).heap[w.heap.size]? = some (.cells #[.bool st, .int .i64 f, .int .i64 t, .slice A n c] 51 (0, 0)) := Go.Deep.blk_alloc_new w _
  have h0 := Lib.hid (And.intro hc1 (And.intro hA1 hb1))
  obtain ⟨r, hr⟩ : ∃ r, emptyB (st, (f, t), ss) = r := ⟨_, rfl⟩
  rw [hr]
  have hrh := Lib.hid hr
  clear hA1 hb1 hc1 hr hA
  go_enter Tryz.func68, Tryz.ntmps68
  go_wp2
  go_loopw [4, 8] (fun _ s8 wr => ∃ (k : Nat), k ≤ n ∧ s8 = .int .i64 k ∧ Hid (∀ (i : Nat) (s : Sp), i < k → ss[i]? = some s → ¬ s.1 < s.2) ∧ wr.heap[w.heap.size]? = some (.cells #[.bool st, .int .i64 f, .int .i64 t, .slice A n c] 51 (0, 0)) ∧ Hid (Spans wr B A n ss) ∧ Below w.heap.size w wr) (fun _ s8 _ => n - (intOf s8).toNat)
  case atStart => exact ⟨0, Nat.zero_le _, rfl, Lib.hid fun i s h => absurd h (by omega), h0.out.1, Lib.hid h0.out.2.1, h0.out.2.2⟩
  case round =>
    obtain ⟨k, hk, rfl, hx, hc, hS, hBe⟩ := hrel
    obtain ⟨wo, rfl⟩ : ∃ wo : World, wo = wr := ⟨_, rfl⟩
    have d1 : wo.cell? ⟨w.heap.size, 1, none⟩ = some (.int .i64 f) := by rw [cells_of hc]; rfl
    have d2 : wo.cell? ⟨w.heap.size, 2, none⟩ = some (.int .i64 t) := by rw [cells_of hc]; rfl
    have hch := Lib.hid hc
    have hBh := Lib.hid hBe
    have hwl : w.heap.size < wo.heap.size := (Array.getElem?_eq_some_iff.1 hc).1
    clear h0 hc hBe
    by_cases hlt : k < n
    · obtain ⟨b, o, ⟨s1, s2⟩, rfl, hb, hs, d3, d4⟩ := hS.out.at_ (k := k) hlt
      simp only at d3 d4
      have hsh := Lib.hid hs
      clear hs
      by_cases hlt2 : s1 < s2
      · have hf : r = false := by
          rw [← hrh.out]
          unfold emptyB
          have : (ss.any fun s => decide (s.1 < s.2)) = true := List.any_eq_true.2 ⟨(s1, s2), List.mem_of_getElem? hsh.out, by simpa using hlt2⟩
          simp [this]
        subst hf
        have hd : decide (s1 < s2) = true := by simpa using hlt2
        go_wp2
        go_ret
        exact ⟨rfl, hBh.out.alloc (by omega) _⟩
      · have hd : decide (s1 < s2) = false := by simpa using hlt2
        go_wp2
        go_roundw
        case rel =>
          refine ⟨k + 1, by omega, by go_num, Lib.hid fun i s hi hs => ?_, ?_, Lib.hid (hS.out.keep fun p hp => World.cell?_alloc_lt _ _ p (by omega)), hBh.out.alloc (by omega) _⟩
          · rcases Nat.lt_or_ge i k with h | h
            · exact hx.out i s h hs
            · obtain rfl : i = k := by omega
              rw [hsh.out] at hs
              injection hs with hs
              subst hs
              exact hlt2
          · exact (Below.heap_alloc wo _ _ hwl).trans hch.out
        case measure => simp [intOf]; omega
    · obtain rfl : k = n := by omega
      have he : r = decide (f = t) := by
        rw [← hrh.out]
        unfold emptyB
        have h1 : (ss.any fun s => decide (s.1 < s.2)) = false := by
          rw [List.any_eq_false]
          intro s hs
          obtain ⟨i, hi⟩ := List.mem_iff_getElem?.1 hs
          have := hx.out i s (by have := (List.getElem?_eq_some_iff.1 hi).1; omega) hi
          simpa using this
        rw [h1]
        by_cases e : f = t
        · simp [e]
        · have : f < t := by omega
          simp [e, this]
      by_cases e : f = t
      · have her : r = true := by rw [he]; simpa using e
        subst her
        have hd : (f == t) = true := by simpa using e
        clear he
        go_wp2
        go_ret
        exact ⟨by first | rfl | simp [e], hBh.out⟩
      · have her : r = false := by rw [he]; simpa using e
        subst her
        have hd : (f == t) = false := by simpa using e
        clear he
        go_wp2
        go_ret
        exact ⟨by first | rfl | simp [e], hBh.out⟩

theorem infoSp : (Tryz.prog.info? 48).map (fun i => (i.zero, i.size, i.bytes)) = some (some (.agg #[.int .i64 0, .int .i64 0]), 2, 16) := by kernel_rfl
/-- make of spans. -/
theorem make_spans (n : Nat) (hn : n ≤ 1000000) (w : World) : (Instr.makeSlice 49 (.int .i64 (n : Int)) (.int .i64 (n : Int))).run Tryz.prog w = .ok (.slice (some ⟨w.heap.size, 0, none⟩) n n) (w.alloc (.cells (madeCells #[.int .i64 0, .int .i64 0] (n * 2)) 48)) := by
  obtain ⟨i, hi, hzz⟩ := Option.map_eq_some_iff.1 infoSp
  simp only [Prod.mk.injEq] at hzz
  obtain ⟨hz, hs, hb⟩ := hzz
  have := run_make (P := Tryz.prog) w 49 48 i (.agg #[.int .i64 0, .int .i64 0]) Tryz.underlying49 hi hz .i64 .i64 n n (by omega) (Int.le_refl _) (by rw [hb]; omega) (by omega)
  simp only [Int.toNat_natCast, hs] at this
  exact this
/-- The cells of spans, as far as place j. -/
def spF (ss : List Sp) (j i : Nat) : Value := if i / 2 < j then .int .i64 (if i % 2 = 0 then (ss[i / 2]?.getD (0, 0)).1 else (ss[i / 2]?.getD (0, 0)).2) else .int .i64 0
theorem made_spans (w : World) (n : Nat) (ss : List Sp) : (w.alloc (.cells (madeCells #[.int .i64 0, .int .i64 0] (n * 2)) 48)).rowIs w.heap.size 48 (n * 2) (spF ss 0) := by
  refine ⟨_, Go.Deep.blk_alloc_new w _, size_madeCells _ _, fun i hi => ?_⟩
  unfold spF
  rw [if_neg (by omega)]
  rcases Nat.mod_two_eq_zero_or_one i with h | h <;> simp [madeCells, hi, h]
theorem spF_set {w : World} {G n j : Nat} {ss : List Sp} {s : Sp} (h : w.rowIs G 48 (n * 2) (spF ss j)) (hs : ss[j]? = some s) :
    ((w.setCell ⟨G, j * 2, none⟩ (.int .i64 s.1)).setCell ⟨G, j * 2 + 1, none⟩ (.int .i64 s.2)).rowIs G 48 (n * 2) (spF ss (j + 1)) := by
  refine ((h.set (j * 2) _).set (j * 2 + 1) _).congr fun i hi => ?_
  unfold spF
  by_cases h1 : i = j * 2 + 1
  · subst h1
    have e1 : (j * 2 + 1) / 2 = j := by omega
    have e2 : (j * 2 + 1) % 2 = 1 := by omega
    simp [e1, e2, hs]
  · by_cases h2 : i = j * 2
    · subst h2
      have e1 : (j * 2) / 2 = j := by omega
      have e2 : (j * 2) % 2 = 0 := by omega
      simp [e1, e2, hs]
    · simp only [if_neg h1, if_neg h2]
      by_cases h3 : i / 2 < j
      · have h4 : i / 2 < j + 1 := by omega
        simp only [if_pos h3, if_pos h4]
      · rw [if_neg h3, if_neg (by omega)]
theorem spF_reads {w : World} {G n : Nat} {ss : List Sp} (h : w.rowIs G 48 (n * 2) (spF ss n)) (hl : ss.length = n) : Spans w w.heap.size (some ⟨G, 0, none⟩) n ss := by
  refine ⟨hl, fun _ => ⟨G, 0, rfl, h.lt, fun j s hs => ?_⟩⟩
  have hj : j < n := by have := (List.getElem?_eq_some_iff.1 hs).1; omega
  refine ⟨?_, ?_⟩
  · rw [Nat.zero_add, h.cell (by omega)]
    unfold spF
    have e1 : (j * 2) / 2 = j := by omega
    have e2 : (j * 2) % 2 = 0 := by omega
    simp [e1, e2, hs, hj]
  · rw [Nat.zero_add, h.cell (by omega)]
    unfold spF
    have e1 : (j * 2 + 1) / 2 = j := by omega
    have e2 : (j * 2 + 1) % 2 = 1 := by omega
    simp [e1, e2, hs, hj]

theorem size_push (w : World) (o : Obj) : (w.alloc o).heap.size = w.heap.size + 1 := by simp
theorem four (w : World) (o1 o2 o3 o4 : Obj) : ((((w.alloc o1).alloc o2).alloc o3).alloc o4).drew.heap.size = w.heap.size + 4 ∧ ((((w.alloc o1).alloc o2).alloc o3).alloc o4).drew.heap[w.heap.size]? = some o1 ∧ ((((w.alloc o1).alloc o2).alloc o3).alloc o4).drew.heap[w.heap.size + 1]? = some o2 ∧
    ((((w.alloc o1).alloc o2).alloc o3).alloc o4).drew.heap[w.heap.size + 1 + 1]? = some o3 ∧ ((((w.alloc o1).alloc o2).alloc o3).alloc o4).drew.heap[w.heap.size + 1 + 1 + 1]? = some o4 ∧ Below w.heap.size w ((((w.alloc o1).alloc o2).alloc o3).alloc o4).drew := by
  have n1 := Go.Deep.blk_alloc_new w o1
  have n2 := Go.Deep.blk_alloc_new (w.alloc o1) o2
  have n3 := Go.Deep.blk_alloc_new ((w.alloc o1).alloc o2) o3
  have n4 := Go.Deep.blk_alloc_new (((w.alloc o1).alloc o2).alloc o3) o4
  simp only [size_push] at n2 n3 n4
  have b2 := Below.heap_alloc (w.alloc o1) o2
  have b3 := Below.heap_alloc ((w.alloc o1).alloc o2) o3
  have b4 := Below.heap_alloc (((w.alloc o1).alloc o2).alloc o3) o4
  simp only [size_push] at b2 b3 b4
  refine ⟨by simp, ?_, ?_, ?_, n4, ?_⟩
  · exact (b4 _ (by omega)).trans ((b3 _ (by omega)).trans ((b2 _ (by omega)).trans n1))
  · exact (b4 _ (by omega)).trans ((b3 _ (by omega)).trans n2)
  · exact (b4 _ (by omega)).trans n3
  · have := ((((Below.refl _ w).alloc (Nat.le_refl _) o1).alloc (by simp) o2).alloc (by simp; omega) o3).alloc (by simp; omega) o4
    exact ⟨this.os, this.tape, this.output, this.size, this.block⟩
theorem row_spans {w : World} {G n : Nat} (ss : List Sp) (h : w.heap[G]? = some (.cells (madeCells #[.int .i64 0, .int .i64 0] (n * 2)) 48 (0, 0))) : w.rowIs G 48 (n * 2) (spF ss 0) := by
  refine ⟨_, h, size_madeCells _ _, fun i hi => ?_⟩
  unfold spF
  rw [if_neg (by omega)]
  rcases Nat.mod_two_eq_zero_or_one i with h | h <;> simp [madeCells, hi, h]

/-- What behind tells: the chunk from where the last one ends, up to some places. -/
def BehindOut (w w' : World) (e : Ending) (st : Bool) (t0 base : Int) (n : Nat) (ss : List Sp) : Prop :=
  ∃ G, e = .returned (.agg #[.bool st, .int .i64 t0, .int .i64 base, .slice (some ⟨G, 0, none⟩) n n]) ∧ w.heap.size ≤ G ∧ Spans w' w'.heap.size (some ⟨G, 0, none⟩) n ss ∧ Below w.heap.size w w'

/-- A side's function: it tells the places f, and turns nothing. -/
def SideFn (g : Nat) (lb : Array Value) (f : List Int) (w : World) : Prop := ∀ (w' : World), Below w.heap.size w w' → ∀ (k : Nat) (v : Int), f[k]? = some v → Calls Tryz.prog g (#[.int .i64 k] ++ lb) w' fun e w'' => e = .returned (.int .i64 v) ∧ ∃ q, w'' = w'.drewN q

/-- How far behind has come. -/
structure BehindIn (w wr : World) (R G n : Nat) (st0 st : Bool) (f0 t0 base : Int) (g : Nat) (ss : List Sp) (j : Nat) : Prop where
  box : wr.heap[w.heap.size]? = some (.cells #[.bool st0, .int .i64 f0, .int .i64 t0, .slice (some ⟨g, 0, none⟩) n n] 51 (0, 0))
  chunk : wr.heap[R]? = some (.cells #[.bool st, .int .i64 t0, .int .i64 base, .slice (some ⟨G, 0, none⟩) n n] 51 (0, 0))
  row : wr.rowIs G 48 (n * 2) (spF ss j)
  res : wr.heap[w.heap.size + 1]? = some (.cells #[.bool false, .int .i64 0, .int .i64 0, .slice none 0 0] 51 (0, 0))
  below : Below w.heap.size w wr
theorem behind_step {w wo : World} {R G n g j q : Nat} {st0 st : Bool} {f0 t0 base : Int} {ss : List Sp} {s : Sp} (hR : w.heap.size + 1 < R) (hG : w.heap.size + 1 < G) (hRG : R ≠ G) (h : BehindIn w wo R G n st0 st f0 t0 base g ss j) (hs : ss[j]? = some s) :
    BehindIn w (((wo.drewN (1 + q)).setCell ⟨G, j * 2, none⟩ (.int .i64 s.1)).setCell ⟨G, j * 2 + 1, none⟩ (.int .i64 s.2)) R G n st0 st f0 t0 base g ss (j + 1) := by
  have key : ∀ k, k ≠ G → (((wo.drewN (1 + q)).setCell ⟨G, j * 2, none⟩ (.int .i64 s.1)).setCell ⟨G, j * 2 + 1, none⟩ (.int .i64 s.2)).heap[k]? = wo.heap[k]? := fun k hk => by
    rw [Below.heap_setCell _ _ _ _ hk, Below.heap_setCell _ _ _ _ hk]
    rfl
  have hb := h.below
  have hb' : Below w.heap.size w (wo.drewN (1 + q)) := ⟨hb.os, hb.tape, hb.output, hb.size, hb.block⟩
  exact ⟨(key _ (by omega)).trans h.box, (key _ hRG).trans h.chunk, spF_set (w := wo.drewN (1 + q)) h.row hs, (key _ (by omega)).trans h.res, (hb'.setCell (by show w.heap.size ≤ G; omega) _).setCell (by show w.heap.size ≤ G; omega) _⟩
theorem behind_end {w wo : World} {G n : Nat} {ss : List Sp} {v v1 v2 v3 : Value} (hG : w.heap.size + 1 < G) (h : wo.rowIs G 48 (n * 2) (spF ss n)) (hl : ss.length = n) (hb : Below w.heap.size w wo) :
    Spans ((((wo.setCell ⟨w.heap.size + 1, 0, none⟩ v).setCell ⟨w.heap.size + 1, 1, none⟩ v1).setCell ⟨w.heap.size + 1, 2, none⟩ v2).setCell ⟨w.heap.size + 1, 3, none⟩ v3) ((((wo.setCell ⟨w.heap.size + 1, 0, none⟩ v).setCell ⟨w.heap.size + 1, 1, none⟩ v1).setCell ⟨w.heap.size + 1, 2, none⟩ v2).setCell ⟨w.heap.size + 1, 3, none⟩ v3).heap.size (some ⟨G, 0, none⟩) n ss ∧
      Below w.heap.size w ((((wo.setCell ⟨w.heap.size + 1, 0, none⟩ v).setCell ⟨w.heap.size + 1, 1, none⟩ v1).setCell ⟨w.heap.size + 1, 2, none⟩ v2).setCell ⟨w.heap.size + 1, 3, none⟩ v3) := by
  refine ⟨spF_reads ((((h.setOther (a := ⟨w.heap.size + 1, 0, none⟩) ?_ _).setOther (a := ⟨w.heap.size + 1, 1, none⟩) ?_ _).setOther (a := ⟨w.heap.size + 1, 2, none⟩) ?_ _).setOther (a := ⟨w.heap.size + 1, 3, none⟩) ?_ _) hl,
    (((hb.setCell ?_ _).setCell ?_ _).setCell ?_ _).setCell ?_ _⟩
  all_goals first | (show w.heap.size ≤ w.heap.size + 1; omega) | (show G ≠ w.heap.size + 1; omega)

set_option maxRecDepth 100000 in
set_option maxHeartbeats 4000000 in
theorem behind_any (st0 st : Bool) (f0 t0 base : Int) (g n g2 : Nat) (lb : Array Value) (old : List Sp) (f : List Int) (w : World) (hn1 : 1 ≤ n) (hn : n ≤ 16) (hA : Spans w w.heap.size (some ⟨g, 0, none⟩) n old) (hfl : f.length = n)
    (hent : ∀ args w, (callFunc g2 args).run Tryz.prog w = .ok (.enter g2 args) w) (hS : SideFn g2 lb f w) :
    Calls Tryz.prog 67 #[.agg #[.bool st0, .int .i64 f0, .int .i64 t0, .slice (some ⟨g, 0, none⟩) n n], .bool st, .int .i64 base, .func (.func g2) #[] lb] w fun e w' => BehindOut w w' e st t0 base n (List.zip (old.map fun s => s.2) f) := by
  have hmk := make_spans n (by omega)
  have hSh := Lib.hid hS
  have hAh := Lib.hid hA
  clear hS hA
  go_enter Tryz.func67, Tryz.ntmps67
  go_upto_region 1 with fail
  go_cut [9] (fun s9 wx => ∃ R G, s9 = .pointer (some ⟨R, 0, none⟩) ∧ w.heap.size + 1 < R ∧ w.heap.size + 1 < G ∧ R ≠ G ∧ wx.heap[w.heap.size]? = some (.cells #[.bool st0, .int .i64 f0, .int .i64 t0, .slice (some ⟨g, 0, none⟩) n n] 51 (0, 0)) ∧
    wx.heap[R]? = some (.cells #[.bool st, .int .i64 t0, .int .i64 base, .slice (some ⟨G, 0, none⟩) n n] 51 (0, 0)) ∧ wx.rowIs G 48 (n * 2) (spF (List.zip (old.map fun s => s.2) f) 0) ∧ wx.heap[w.heap.size + 1]? = some (.cells #[.bool false, .int .i64 0, .int .i64 0, .slice none 0 0] 51 (0, 0)) ∧ Below w.heap.size w wx)
  case first =>
    go_region
    · go_wp2_with fail
      go_meet
      case rel =>
        obtain ⟨-, h1, h2, h3, h4, hb⟩ := four w (.cells #[.bool st0, .int .i64 f0, .int .i64 t0, .slice (some ⟨g, 0, none⟩) n n] 51) (.cells #[.bool false, .int .i64 0, .int .i64 0, .slice none 0 0] 51) (.cells (madeCells #[.int .i64 0, .int .i64 0] (n * 2)) 48) (.cells #[.bool st, .int .i64 t0, .int .i64 base, .slice (some ⟨w.heap.size + 1 + 1, 0, none⟩) n n] 51)
        exact ⟨_, _, rfl, by omega, by omega, by omega, h1, h4, row_spans _ h3, h2, hb⟩
    · go_wp2_with fail
      go_meet
      case rel =>
        obtain ⟨-, h1, h2, h3, h4, hb⟩ := four w (.cells #[.bool st0, .int .i64 f0, .int .i64 t0, .slice (some ⟨g, 0, none⟩) n n] 51) (.cells #[.bool false, .int .i64 0, .int .i64 0, .slice none 0 0] 51) (.cells #[.bool st, .int .i64 t0, .int .i64 base, .slice (some ⟨w.heap.size + 1 + 1 + 1, 0, none⟩) n n] 51) (.cells (madeCells #[.int .i64 0, .int .i64 0] (n * 2)) 48)
        exact ⟨_, _, rfl, by omega, by omega, by omega, h1, h3, row_spans _ h4, h2, hb⟩
  case rest =>
    obtain ⟨R, G, rfl, hR, hG, hRG, hP0, hR0, hG0, h80, hB0⟩ := hcut
    have hRl : R < wc.heap.size := (Array.getElem?_eq_some_iff.1 hR0).1
    have c0 : wc.cell? ⟨R, 3, none⟩ = some (.slice (some ⟨G, 0, none⟩) n n) := by rw [cells_of hR0]; rfl
    have h0 := Lib.hid (BehindIn.mk (w := w) hP0 hR0 hG0 h80 hB0)
    clear hP0 hR0 hG0 h80 hB0 hmk
    go_wp2
    go_loopw [10, 25] (fun _ s25 wr => ∃ j : Nat, j ≤ n ∧ s25 = .int .i64 j ∧ Hid (BehindIn w wr R G n st0 st f0 t0 base g (List.zip (old.map fun s => s.2) f) j)) (fun _ s25 _ => n - (intOf s25).toNat)
    case atStart => exact ⟨0, Nat.zero_le _, rfl, h0⟩
    case round =>
      obtain ⟨j, hj, rfl, hH⟩ := hrel
      obtain ⟨wo, rfl⟩ : ∃ wo : World, wo = wr := ⟨_, rfl⟩
      clear h0 c0
      obtain ⟨hP, hR1, hG1, h81, hB1⟩ := hH.out
      have c3 : wo.cell? ⟨w.heap.size, 3, none⟩ = some (.slice (some ⟨g, 0, none⟩) n n) := by rw [cells_of hP]; rfl
      have c4 : wo.cell? ⟨R, 3, none⟩ = some (.slice (some ⟨G, 0, none⟩) n n) := by rw [cells_of hR1]; rfl
      by_cases hlt : j < n
      · have hgl : g < w.heap.size := by
          obtain ⟨b, o, e, hb, -⟩ := hAh.out.2 (by omega)
          injection e with e
          injection e with e
          omega
        obtain ⟨b, o, ⟨s1, s2⟩, he, hb, hs, d3, d4⟩ := (hAh.out.keep (w' := wo) fun p hp => hB1.cell hp).at_ (k := j) hlt
        injection he with he
        injection he with he1 he2
        subst he1
        subst he2
        simp only at d4
        rw [Nat.zero_add] at d4
        obtain ⟨v, hv⟩ : ∃ v, f[j]? = some v := ⟨f[j]'(by omega), List.getElem?_eq_getElem _⟩
        have hz : (List.zip (old.map fun s => s.2) f)[j]? = some (s2, v) := List.getElem?_zip_eq_some.2 ⟨by rw [List.getElem?_map, hs]; rfl, hv⟩
        have g1 : wo.cell? ⟨G, j * 2, none⟩ = some (spF (List.zip (old.map fun s => s.2) f) j (j * 2)) := hG1.cell (by omega)
        have g2' : wo.cell? ⟨G, j * 2 + 1, none⟩ = some (spF (List.zip (old.map fun s => s.2) f) j (j * 2 + 1)) := hG1.cell (by omega)
        have g3 := hG1.frozen (j * 2)
        have g4 := hG1.frozen (j * 2 + 1)
        obtain ⟨u1, hu1⟩ : ∃ u, spF (List.zip (old.map fun s => s.2) f) j (j * 2) = u := ⟨_, rfl⟩
        obtain ⟨u2, hu2⟩ : ∃ u, spF (List.zip (old.map fun s => s.2) f) j (j * 2 + 1) = u := ⟨_, rfl⟩
        rw [hu1] at g1
        rw [hu2] at g2'
        have hcall := Lib.hid (fun w1 hb => hSh.out w1 hb j v hv)
        have hBh := Lib.hid hB1
        have hzh := Lib.hid hz
        have hstep := Lib.hid (fun q : Nat => behind_step (q := q) hR hG hRG ⟨hP, hR1, hG1, h81, hB1⟩ hz)
        have i1 : (0 : Int) ≤ (j : Int) := by omega
        have i2 : (j : Int) < (n : Int) := by omega
        clear hP hR1 hG1 h81 hB1 hu1 hu2 hz hv hs d3
        go_wp2
        have hcall2 := Lib.hid (hcall.out wo.drew (hBh.out.drew))
        go_region_with (refine hcall2.out.mono ?_; rintro e w1 ⟨rfl, q, rfl⟩)
        all_goals
          go_wp2_with fail
          go_roundw
          case rel => exact ⟨j + 1, by omega, by go_num, Lib.hid (hstep.out q)⟩
          case measure => simp [intOf]; omega
      · obtain rfl : j = n := by omega
        have c5 : wo.cell? ⟨R, 0, none⟩ = some (.bool st) := by rw [cells_of hR1]; rfl
        have c6 : wo.cell? ⟨R, 1, none⟩ = some (.int .i64 t0) := by rw [cells_of hR1]; rfl
        have c7 : wo.cell? ⟨R, 2, none⟩ = some (.int .i64 base) := by rw [cells_of hR1]; rfl
        have e0 : wo.cell? ⟨w.heap.size + 1, 0, none⟩ = some (.bool false) := by rw [cells_of h81]; rfl
        have e1 : wo.cell? ⟨w.heap.size + 1, 1, none⟩ = some (.int .i64 0) := by rw [cells_of h81]; rfl
        have e2 : wo.cell? ⟨w.heap.size + 1, 2, none⟩ = some (.int .i64 0) := by rw [cells_of h81]; rfl
        have e3 : wo.cell? ⟨w.heap.size + 1, 3, none⟩ = some (.slice none 0 0) := by rw [cells_of h81]; rfl
        have e4 := unfrozen_of h81 0
        have e5 := unfrozen_of h81 1
        have e6 := unfrozen_of h81 2
        have e7 := unfrozen_of h81 3
        have hend := Lib.hid (behind_end (v := .bool st) (v1 := .int .i64 t0) (v2 := .int .i64 base) (v3 := .slice (some ⟨G, 0, none⟩) j j) hG hG1 (by rw [List.length_zip, List.length_map, hAh.out.len]; omega) hB1)
        clear hP hR1 hG1 h81 hB1
        go_wp2
        refine bodyPost_ret (v := .agg #[.bool st, .int .i64 t0, .int .i64 base, .slice (some ⟨G, 0, none⟩) j j]) (by simp [results, Tryz.results67, go_sem, World.cell?_setCell_same', e0, e1, e2, e3]) rfl ?_
        exact ⟨G, rfl, by omega, hend.out.1, hend.out.2⟩
end Go.Proofs.YtoopdgohdeddoaaGreatDoor
