/- Proved here: texts joined: MayM, AlnMay, ButP, Aln. -/
import Derived.Test.YtoopdgohdeddoaaGreatDoorBs01
import Derived.Test.YtoopdgohdeddoaaGreatDoorBs13
import Derived.Test.YtoopdgohdeddoaaGreatDoorBs16
import Derived.Test.YtoopdgohdeddoaaGreatDoorChecked
import Derived.WalkLawsBesides
import Derived.BigFrame
import Derived.Deep.QuietTactic
import Derived.BigQuiet
import Derived.Deep.RegionHeld3
/- Proved here: the contract of the document's own answer of layer 4: May. -/
namespace Go.Proofs.YtoopdgohdeddoaaGreatDoor
open Go.RowKit
set_option linter.unusedVariables false

theorem mayL_miss {n : Int} {l : List Int} {b : Int} {k : Nat} (h : l[k]? = some (-1)) : mayL n (l.drop k) b = mayL n (l.drop (k + 1)) b := by
  rw [drop_at h, mayL, if_pos rfl]
theorem mayL_hit {n v : Int} {l : List Int} {b : Int} {k : Nat} (h : l[k]? = some v) (hv : v ≠ -1) (h1 : b ≤ v) (h2 : v < n) : mayL n (l.drop k) b = mayL n (l.drop (k + 1)) (v + 1) := by
  rw [drop_at h, mayL, if_neg hv]
  simp [h1, h2]
theorem mayL_out {n v : Int} {l : List Int} {b : Int} {k : Nat} (h : l[k]? = some v) (hv : v ≠ -1) (h1 : ¬ (b ≤ v ∧ v < n)) : mayL n (l.drop k) b = false := by
  rw [drop_at h, mayL, if_neg hv]
  by_cases e : b ≤ v
  · have : ¬ v < n := fun h => h1 ⟨e, h⟩
    simp [this]
  · simp [e]

set_option maxHeartbeats 1000000 in
theorem May_any (A : Option Addr) (n c B : Nat) (l : List Int) (N : Int) (w : World) (hn : n ≤ maxLen) (hN : N ≤ 9223372036854775807) (hA : Nums w B A n l) :
    Calls Tryz.prog 106 #[.slice A n c, .int .i64 N] w fun e w' => e = .returned (.bool (may l N)) ∧ w = w' := by
  have hl := hA.len
  unfold maxLen at hn
  by_cases h0 : N < 0
  · have hm : may l N = false := by unfold may; simp; omega
    rw [hm]
    go_enter Tryz.func106, Tryz.ntmps106
    go_wp2
    go_ret
    exact ⟨rfl, rfl⟩
  · have hm : may l N = mayL N l 0 := by unfold may; simp; omega
    rw [hm]
    go_enter Tryz.func106, Tryz.ntmps106
    go_wp2
    go_loop [5, 6] (fun sb si => ∃ (k : Nat) (b : Int), k ≤ n ∧ si = .int .i64 k ∧ sb = .int .i64 b ∧ 0 ≤ b ∧ Hid (mayL N l 0 = mayL N (l.drop k) b)) (fun _ si => n - (intOf si).toNat)
    case atStart => exact ⟨0, 0, Nat.zero_le _, rfl, rfl, Int.le_refl _, Lib.hid rfl⟩
    case round =>
      obtain ⟨k, b, hk, rfl, rfl, hb, hq⟩ := hrel
      clear hm
      by_cases hlt : k < n
      · obtain ⟨g, o, v, rfl, hg, hv, hc⟩ := hA.at_ (k := k) hlt
        have hki : (k : Int) < (n : Int) := by omega
        by_cases h1 : v = -1
        · subst h1
          have hq2 := Lib.hid (hq.out.trans (mayL_miss hv))
          go_wp2
          go_round
          case rel => exact ⟨k + 1, b, by omega, by go_num, rfl, hb, hq2⟩
          case measure => simp [intOf] <;> omega
        · have he : (v == -1) = false := by simpa using h1
          by_cases h2 : v < b
          · have hq2 := Lib.hid (hq.out.trans (mayL_out hv h1 (by omega)))
            go_wp2
            go_ret
            exact ⟨ret_bool hq2.out.symm, rfl⟩
          · have h2' : decide (v < b) = false := by simp; omega
            by_cases h3 : N ≤ v
            · have hq2 := Lib.hid (hq.out.trans (mayL_out hv h1 (by omega)))
              go_wp2
              go_ret
              exact ⟨ret_bool hq2.out.symm, rfl⟩
            · have hq2 := Lib.hid (hq.out.trans (mayL_hit hv h1 (by omega) (by omega)))
              go_wp2
              go_round
              case rel => exact ⟨k + 1, v + 1, by omega, by go_num, rfl, by omega, hq2⟩
              case measure => simp [intOf] <;> omega
      · obtain rfl : k = n := by omega
        have hq2 : Hid (mayL N l 0 = true) := Lib.hid (by rw [hq.out, List.drop_of_length_le (by omega)]; rfl)
        go_wp2
        go_ret
        exact ⟨ret_bool hq2.out.symm, rfl⟩
end Go.Proofs.YtoopdgohdeddoaaGreatDoor
/- Proved here: the contract of the document's own function of layer 5 that tells whether there may be such chunks: may (where there may). -/
namespace Go.Proofs.YtoopdgohdeddoaaGreatDoor
open Go.RowKit
set_option linter.unusedVariables false

set_option maxRecDepth 100000 in
set_option maxHeartbeats 2000000 in
theorem rMay5_any (m : Nat) (A0 : Option Addr) (c0 : Nat) (sizes : List Int) (A : Option Addr) (n c B : Nat) (rows : List (Option Addr × Nat × Nat)) (ms : List (List Int)) (w : World) (hm : m ≤ 1000000) (hn : 1 ≤ n) (hn2 : n ≤ 16) (hz : ∀ z ∈ sizes, z ≤ 1000000) (hlen : ∀ l ∈ ms, l.length = m) (hmay : ∀ (i : Nat) (l : List Int) (z : Int), ms[i]? = some l → sizes[i]? = some z → may l z = true) (hA0 : Nums w B A0 n sizes) (hA : RowsN w B A n rows ms) :
    Calls Tryz.prog 85 #[.int .i64 m, .slice A0 n c0, .slice A n c] w fun e w' => e = .returned (.bool true) ∧ ∃ q, w' = w.drewN q := by
  have hl := hA.len
  have hA0h := Lib.hid hA0
  have hAh := Lib.hid hA
  have hzh := Lib.hid hz
  have hlenh := Lib.hid hlen
  have hmayh := Lib.hid hmay
  have d1 : ((n : Int) == 0) = false := by simp; omega
  have d2 : decide ((16 : Int) < (n : Int)) = false := decide_eq_false (by omega)
  have d3 : ((n : Int) != (n : Int)) = false := by simp
  clear hA0 hA hz hlen hmay
  go_enter Tryz.func85, Tryz.ntmps85
  go_wp2
  go_loopw [7] (fun s7 wr => ∃ i : Nat, i ≤ n ∧ s7 = .int .i64 i ∧ Hid (∃ q, wr = w.drewN q)) (fun s7 _ => n - (intOf s7).toNat)
  case atStart => exact ⟨0, Nat.zero_le _, rfl, Lib.hid ⟨0, rfl⟩⟩
  case round =>
    obtain ⟨i, hin, rfl, hw⟩ := hrel
    obtain ⟨wo, rfl⟩ : ∃ wo : World, wo = wr := ⟨_, rfl⟩
    by_cases hlt : i < n
    · have hdr : Hid (∀ j, ∃ q, wo.drewN j = w.drewN q) := Lib.hid (fun j => by obtain ⟨q, rfl⟩ := hw.out; exact ⟨_, World.drewN_drewN _ _ _⟩)
      obtain ⟨b, o, A1, n1, c1, l, rfl, hb, hml, hc, hN⟩ := (show RowsN wo B A n rows ms by obtain ⟨q, rfl⟩ := hw.out; exact hAh.out.drewN q).at_ hlt
      obtain ⟨b0, o0, z, rfl, hb0, hzz, hc0⟩ := (show Nums wo B A0 n sizes by obtain ⟨q, rfl⟩ := hw.out; exact hA0h.out.drewN q).at_ hlt
      have hll := hlenh.out l (List.mem_of_getElem? hml)
      have hn1 : n1 = m := by have := hN.len; omega
      subst hn1
      have hM : Hid (∀ j, Calls Tryz.prog 106 #[.slice A1 n1 c1, .int .i64 z] (wo.drewN j) fun e w' => e = .returned (.bool true) ∧ ∃ q, w' = (wo.drewN j).drewN q) := Lib.hid (fun j => by
        refine (May_any A1 n1 c1 B l z (wo.drewN j) (by unfold maxLen; omega) (by have := hzh.out z (List.mem_of_getElem? hzz); omega) (hN.drewN j)).mono ?_
        rintro e w' ⟨rfl, rfl⟩
        exact ⟨by rw [hmayh.out i l z hml hzz], 0, rfl⟩)
      have d4 : ((n1 : Int) != (n1 : Int)) = false := by simp
      have i1 : (0 : Int) ≤ (i : Int) := by omega
      have i2 : (i : Int) < (n : Int) := by omega
      clear hml hzz hN hll
      go_wp2
      go_quiet ((go_at_call 106; exact Calls.quiet_of (hM.out _)))
      obtain ⟨z1, rfl⟩ : ∃ z1, z1 = nq := ⟨_, rfl⟩
      go_wp2
      go_roundw
      case rel => exact ⟨i + 1, by omega, by go_num, Lib.hid (hdr.out z1)⟩
      case measure => simp [intOf]; omega
    · go_wp2
      go_ret
      exact ⟨rfl, hw.out⟩
end Go.Proofs.YtoopdgohdeddoaaGreatDoor
/- Proved here: four cells are stored. -/
namespace Go.Proofs.YtoopdgohdeddoaaGreatDoor
open Go.RowKit
set_option linter.unusedVariables false
/-- A piece is stored. -/
theorem But.piece (w : World) (L : Nat) (u0 u1 u2 u3 : Value) : But (fun k => k = L) w ((((w.setCell ⟨L, 0, none⟩ u0).setCell ⟨L, 1, none⟩ u1).setCell ⟨L, 2, none⟩ u2).setCell ⟨L, 3, none⟩ u3) :=
  (((But.setCell (F := fun k => k = L) w (p := ⟨L, 0, none⟩) rfl _).trans (But.setCell (F := fun k => k = L) _ (p := ⟨L, 1, none⟩) rfl _) fun k e => .inl e).trans (But.setCell (F := fun k => k = L) _ (p := ⟨L, 2, none⟩) rfl _) fun k e => .inl e).trans (But.setCell (F := fun k => k = L) _ (p := ⟨L, 3, none⟩) rfl _) fun k e => .inl e
end Go.Proofs.YtoopdgohdeddoaaGreatDoor
/- Proved here: the contract of the document's own answer of layer 5: Align (where there may be such chunks). -/
namespace Go.Proofs.YtoopdgohdeddoaaGreatDoor
open Go.RowKit
set_option linter.unusedVariables false

/-- The last chunk; a zero one, if there is none. -/
def lastQ (qs : List (CkV × Ck)) : CkV × Ck := qs.getLast?.getD ((none, 0, 0), (false, (0, 0), []))
theorem lastQ_snoc (qs : List (CkV × Ck)) (q : CkV × Ck) : lastQ (qs ++ [q]) = q := by simp [lastQ]
theorem endB_last (qs : List (CkV × Ck)) : endB (cksOf qs) = (lastQ qs).2.2.1.2 := by
  unfold endB lastQ cksOf
  rw [List.getLast?_map]
  cases qs.getLast? <;> rfl
/-- How far Align has come: the last chunk's block, the chunks, each with its sides. -/
structure AlnIn (w wr : World) (n : Nat) (v : Value) (qs : List (CkV × Ck)) : Prop where
  cks : CksO (w.heap.size + 1) wr v qs
  box : wr.heap[w.heap.size]? = some (.cells (cqC (lastQ qs)).toArray 51 (0, 0))
  wid : ∀ q ∈ qs, q.2.2.2.length = n
  below : Below w.heap.size w wr
section
variable {w wr w1 w2 : World} {n : Nat} {v v' : Value} {qs : List (CkV × Ck)}
theorem AlnIn.start (w : World) (n : Nat) (z : Nat) : AlnIn w ((w.drewN z).alloc (.cells #[.bool false, .int .i64 0, .int .i64 0, .slice none 0 0] 51)) n (.slice none 0 0) [] := by
  refine ⟨CksO.start (by simp), ?_, fun q hq => by simp at hq, (below_drewN (Below.refl _ w) z).alloc (Nat.le_refl _) _⟩
  exact Go.Deep.blk_alloc_new (w.drewN z) _
theorem AlnIn.up (h : AlnIn w wr n v qs) (hb : Below wr.heap.size wr w1) : AlnIn w w1 n v qs :=
  ⟨h.cks.up hb, (hb.block _ (Array.getElem?_eq_some_iff.1 h.box).1).trans h.box, h.wid, h.below.trans (hb.mono h.below.size)⟩
theorem AlnIn.cells (h : AlnIn w wr n v qs) : ∃ st f t A n0 c0 ss, (lastQ qs) = ((A, n0, c0), (st, (f, t), ss)) ∧ wr.cell? ⟨w.heap.size, 0, none⟩ = some (.bool st) ∧ wr.cell? ⟨w.heap.size, 1, none⟩ = some (.int .i64 f) ∧ wr.cell? ⟨w.heap.size, 2, none⟩ = some (.int .i64 t) ∧ wr.cell? ⟨w.heap.size, 3, none⟩ = some (.slice A n0 c0) ∧
    wr.frozen? ⟨w.heap.size, 0, none⟩ = false ∧ wr.frozen? ⟨w.heap.size, 1, none⟩ = false ∧ wr.frozen? ⟨w.heap.size, 2, none⟩ = false ∧ wr.frozen? ⟨w.heap.size, 3, none⟩ = false ∧ w.heap.size < wr.heap.size ∧
    Spans wr wr.heap.size A n0 ss ∧ n0 ≤ c0 ∧ c0 ≤ maxLen ∧ (n0 = 0 ∨ n0 = n) ∧ froms n0 n ss = endA n (cksOf qs) ∧ t = endB (cksOf qs) := by
  obtain ⟨⟨⟨A, n0, c0⟩, st, ⟨f, t⟩, ss⟩, hq⟩ : ∃ q, lastQ qs = q := ⟨_, rfl⟩
  have hbx := h.box
  rw [hq] at hbx
  obtain ⟨e0, e1, e2, e3, z0, z1, z2, z3⟩ := piece_at (show wr.heap[w.heap.size]? = some (.cells #[.bool st, .int .i64 f, .int .i64 t, .slice A n0 c0] 51 (0, 0)) from hbx)
  have ht : t = endB (cksOf qs) := by rw [endB_last, hq]
  have hsz := (Array.getElem?_eq_some_iff.1 hbx).1
  refine ⟨st, f, t, A, n0, c0, ss, hq, e0, e1, e2, e3, z0, z1, z2, z3, hsz, ?_⟩
  cases hl : qs.getLast? with
  | none =>
    have he : qs = [] := List.getLast?_eq_none_iff.1 hl
    subst he
    simp only [lastQ, List.getLast?_nil, Option.getD_none, Prod.mk.injEq] at hq
    obtain ⟨⟨rfl, rfl, rfl⟩, rfl, ⟨rfl, rfl⟩, rfl⟩ := hq
    exact ⟨⟨rfl, fun h => absurd h (by omega)⟩, Nat.le_refl _, Nat.zero_le _, .inl rfl, rfl, ht⟩
  | some q =>
    have hm : q ∈ qs := List.mem_of_getLast? hl
    have hqe : q = ((A, n0, c0), (st, (f, t), ss)) := by unfold lastQ at hq; rw [hl] at hq; simpa using hq
    obtain ⟨r1, r2, r3⟩ := h.cks.row wr (But.refl _ _) q hm
    have hw := h.wid q hm
    rw [hqe] at r1 r2 r3 hw
    dsimp only at r1 r2 r3 hw
    have hn0 : n0 = n := by have := r3.len; omega
    refine ⟨r3, r1, r2, .inr hn0, ?_, ht⟩
    unfold endA cksOf froms
    rw [List.getLast?_map, hl, hqe]
    show (if n0 = 0 then List.replicate n 0 else ss.map fun s => s.2) = ends (st, (f, t), ss)
    unfold ends
    by_cases h0 : n0 = 0
    · rw [if_pos h0]
      have : ss = [] := List.eq_nil_of_length_eq_zero (by have := r3.len; omega)
      subst this
      rw [← hn0, h0]
      rfl
    · rw [if_neg h0]
/-- One more chunk, told as the last one. -/
theorem AlnIn.put {q : CkV × Ck} {o : Obj} {qs' : List (CkV × Ck)} {u : Value} (h : AlnIn w wr n v qs) (hc : CksO (w.heap.size + 1) wr u qs') (hq' : ∀ q ∈ qs', q ∈ qs) (hw : q.2.2.2.length = n) (hr : ∀ w2, But (fun k => u.ownBlock = some k ∨ k < w.heap.size + 1) wr w2 → ckR w2 w2.heap.size q.1 q.2)
    (hown : w2.ownsRow (w.heap.size + 1) 51 4 v' (qs'.length + 1) (cqCs qs' ++ cqC q)) (hg : (wr.alloc o).grownBy w2 u.ownBlock) (hloc : v'.ownBlock = u.ownBlock ∨ v'.ownBlock = some (wr.alloc o).heap.size) :
    (w2.heap[w.heap.size]? = some (.cells (cqC (lastQ qs)).toArray 51 (0, 0))) ∧
    AlnIn w ((((w2.setCell ⟨w.heap.size, 0, none⟩ (.bool q.2.1)).setCell ⟨w.heap.size, 1, none⟩ (.int .i64 q.2.2.1.1)).setCell ⟨w.heap.size, 2, none⟩ (.int .i64 q.2.2.1.2)).setCell ⟨w.heap.size, 3, none⟩ (.slice q.1.1 q.1.2.1 q.1.2.2)) n v' (qs' ++ [q]) := by
  have hL := (Array.getElem?_eq_some_iff.1 h.box).1
  have hC := hc.put hr hown hg hloc
  have hbx : w2.heap[w.heap.size]? = some (.cells (cqC (lastQ qs)).toArray 51 (0, 0)) := (hg.block _ (by simp; omega) (fun e => by have := (hc.own.lt _ e.symm).1; omega)).trans ((Below.heap_alloc wr o _ hL).trans h.box)
  have hB := But.piece w2 w.heap.size (.bool q.2.1) (.int .i64 q.2.2.1.1) (.int .i64 q.2.2.1.2) (.slice q.1.1 q.1.2.1 q.1.2.2)
  have hB2 : Below w.heap.size w w2 := (h.below.alloc h.below.size o).grown hg (by have := h.below.size; simp; omega) fun j e => by have := (hc.own.lt j e).1; omega
  refine ⟨hbx, hC.touch (hB.more (by rintro k rfl; omega)), ?_, fun p hp => ?_, hB2.trans (hB.below hB2.size (by rintro k rfl; exact Nat.le_refl _))⟩
  · rw [lastQ_snoc]
    obtain ⟨x, hx⟩ : ∃ x, lastQ qs = x := ⟨_, rfl⟩
    rw [hx] at hbx
    show _ = some (Obj.cells #[.bool q.2.1, .int .i64 q.2.2.1.1, .int .i64 q.2.2.1.2, .slice q.1.1 q.1.2.1 q.1.2.2] 51 (0, 0))
    have hbx2 : w2.heap[w.heap.size]? = some (.cells #[.bool x.2.1, .int .i64 x.2.2.1.1, .int .i64 x.2.2.1.2, .slice x.1.1 x.1.2.1 x.1.2.2] 51 (0, 0)) := hbx
    simp [World.setCell, Array.getElem?_modify, hbx2]
  · rcases List.mem_append.1 hp with hp | hp
    · exact h.wid p (hq' p hp)
    · rw [List.mem_singleton.1 hp]; exact hw
end

/-- A chunk that lies in a new block, its sides new too. -/
def NewCk (wo wx : World) (g : Nat) (r : CkV) (c : Ck) : Prop := wx.heap[g]? = some (.cells (cqC (r, c)).toArray 51 (0, 0)) ∧ wo.heap.size ≤ g ∧ (∀ w2, But (fun k => k < wo.heap.size ∨ k = g) wx w2 → ckR w2 w2.heap.size r c) ∧ Below wo.heap.size wo wx
def zeroCk : Obj := .cells #[.bool false, .int .i64 0, .int .i64 0, .slice none 0 0] 51
/-- The chunk's block is made behind all. -/
theorem NewCk.late {wo W w8 : World} {A : Option Addr} {n cap : Nat} {c : Ck} (hW : Below wo.heap.size wo W) (h1 : n ≤ cap) (h2 : cap ≤ maxLen) (h3 : Spans w8 w8.heap.size A n c.2.2) (h4 : 0 < n → ∀ g o, A = some ⟨g, o, none⟩ → W.heap.size ≤ g) (hb : Below W.heap.size W w8) :
    NewCk wo (w8.alloc (.cells #[.bool c.1, .int .i64 c.2.1.1, .int .i64 c.2.1.2, .slice A n cap] 51)) w8.heap.size (A, n, cap) c := by
  have hs := hW.size
  have hs2 := hb.size
  have hB : Below wo.heap.size wo w8 := hW.trans (hb.mono hs)
  refine ⟨Go.Deep.blk_alloc_new w8 _, by omega, fun w2 h => ?_, hB.alloc (by show wo.heap.size ≤ w8.heap.size; omega) _⟩
  refine ⟨h1, h2, h3.1, fun hn => ?_⟩
  obtain ⟨b, o, e, hlt, hc⟩ := h3.2 hn
  have hge := h4 hn b o e
  have key : ∀ q : Addr, q.block = b → w2.cell? q = w8.cell? q := fun q hq => (World.cell?_of_block (w := w8.alloc _) (by rw [hq]; exact h.block b (by simp; omega) (fun hf => by rcases hf with hf | hf <;> omega))).trans (World.cell?_alloc_lt w8 _ q (by rw [hq]; exact hlt))
  exact ⟨b, o, e, Nat.lt_of_lt_of_le (by simp; omega) h.size, fun j s hj => ⟨(key _ rfl).trans (hc j s hj).1, (key _ rfl).trans (hc j s hj).2⟩⟩
/-- The chunk's block was made ahead of its sides. -/
theorem NewCk.early {wo W w8 : World} {g : Nat} {A : Option Addr} {n cap : Nat} {c : Ck} {x0 x1 x2 x3 : Value} (hW : Below wo.heap.size wo W) (hg : wo.heap.size ≤ g) (hgW : g < W.heap.size) (h1 : n ≤ cap) (h2 : cap ≤ maxLen) (h3 : Spans w8 w8.heap.size A n c.2.2) (h4 : 0 < n → ∀ g o, A = some ⟨g, o, none⟩ → W.heap.size ≤ g) (hb : Below W.heap.size W w8)
    (hx : w8.heap[g]? = some (.cells #[x0, x1, x2, x3] 51 (0, 0))) :
    NewCk wo ((((w8.setCell ⟨g, 0, none⟩ (.bool c.1)).setCell ⟨g, 1, none⟩ (.int .i64 c.2.1.1)).setCell ⟨g, 2, none⟩ (.int .i64 c.2.1.2)).setCell ⟨g, 3, none⟩ (.slice A n cap)) g (A, n, cap) c := by
  have hs := hW.size
  have hs2 := hb.size
  have hB : Below wo.heap.size wo w8 := hW.trans (hb.mono hs)
  have hP := But.piece w8 g (.bool c.1) (.int .i64 c.2.1.1) (.int .i64 c.2.1.2) (.slice A n cap)
  refine ⟨?_, hg, fun w2 h => ?_, hB.trans (hP.below (by show wo.heap.size ≤ w8.heap.size; omega) (by rintro k rfl; exact hg))⟩
  · show _ = some (Obj.cells #[.bool c.1, .int .i64 c.2.1.1, .int .i64 c.2.1.2, .slice A n cap] 51 (0, 0))

    simp [World.setCell, Array.getElem?_modify, hx]
  · refine ⟨h1, h2, h3.1, fun hn => ?_⟩
    obtain ⟨b, o, e, hlt, hc⟩ := h3.2 hn
    have hge := h4 hn b o e
    have hb2 : But (fun k => k < wo.heap.size ∨ k = g) w8 w2 := (hP.more (F' := fun k => k < wo.heap.size ∨ k = g) (by rintro k rfl; exact .inr rfl)).trans h fun k e => .inl e
    have key : ∀ q : Addr, q.block = b → w2.cell? q = w8.cell? q := fun q hq => (World.cell?_of_block (w := w8) (by rw [hq]; exact hb2.block b hlt (fun hf => by rcases hf with hf | hf <;> omega))).trans rfl
    exact ⟨b, o, e, Nat.lt_of_lt_of_le hlt hb2.size, fun j s hj => ⟨(key _ rfl).trans (hc j s hj).1, (key _ rfl).trans (hc j s hj).2⟩⟩

/-- One stable place, plain. -/
theorem ref_mid {m k : Nat} {sizes : List Int} {ms : List (List Int)} {out : List Ck} (hm : ∀ (k : Nat) (l : List Int) (z : Int), ms[k]? = some l → sizes[k]? = some z → IsMatch m l z) (hml : ms.length = sizes.length) (h : RefIn m sizes ms k out) (hkm : k < m) (hk : allP ms k = true) :
    endB (putC out (ckOf false (endB out) k (endA sizes.length out) (plAll ms k))) = k ∧ endA sizes.length (putC out (ckOf false (endB out) k (endA sizes.length out) (plAll ms k))) = plAll ms k ∧
      (¬ tog ms k → RefIn m sizes ms (k + 1) (putC out (ckOf false (endB out) k (endA sizes.length out) (plAll ms k)) ++ [ckOf true k (k + 1 : Nat) (plAll ms k) (plUp ms k)])) ∧
      (tog ms k → ∃ cs c, putC out (ckOf false (endB out) k (endA sizes.length out) (plAll ms k)) = cs ++ [c] ∧ RefIn m sizes ms (k + 1) (cs ++ [longerC c (ckOf true k (k + 1 : Nat) (plAll ms k) (plUp ms k))])) := by
  by_cases ht : tog ms k
  · obtain ⟨h1, h2, h3, cs, c, h4, _, h5⟩ := h.joined hml ht hk
    have e : putC out (ckOf false (endB out) k (endA sizes.length out) (plAll ms k)) = out := by unfold putC; rw [if_pos h3]
    rw [e]
    exact ⟨h1, h2, fun hn => absurd ht hn, fun _ => ⟨cs, c, h4, h5⟩⟩
  · obtain ⟨h1, h2, h3⟩ := h.fresh hm hml hkm hk ht
    exact ⟨h1, h2, fun _ => h3, fun hn => absurd hn ht⟩

theorem NewCk.row {w wo wx w1 : World} {g : Nat} {r : CkV} {c : Ck} {v : Value} (h : NewCk wo wx g r c) (hb : Below wx.heap.size wx w1) (hv : ∀ k, v.ownBlock = some k → k < wo.heap.size) (hs : w.heap.size < wo.heap.size) :
    ∀ w2, But (fun k => v.ownBlock = some k ∨ k < w.heap.size + 1) w1 w2 → ckR w2 w2.heap.size r c := fun w2 h2 =>
  h.2.2.1 w2 ((But.of_below (F := fun k => k < wo.heap.size ∨ k = g) hb fun k hk _ => hk).trans h2 fun k e => by
    rcases e with e | e
    · exact .inl (.inl (hv k e))
    · exact .inl (.inl (by omega)))
theorem NewCk.cells {wo wx : World} {g : Nat} {r : CkV} {c : Ck} (h : NewCk wo wx g r c) : wx.cell? ⟨g, 0, none⟩ = some (.bool c.1) ∧ wx.cell? ⟨g, 1, none⟩ = some (.int .i64 c.2.1.1) ∧ wx.cell? ⟨g, 2, none⟩ = some (.int .i64 c.2.1.2) ∧ wx.cell? ⟨g, 3, none⟩ = some (.slice r.1 r.2.1 r.2.2) ∧
    wx.frozen? ⟨g, 0, none⟩ = false ∧ wx.frozen? ⟨g, 1, none⟩ = false ∧ wx.frozen? ⟨g, 2, none⟩ = false ∧ wx.frozen? ⟨g, 3, none⟩ = false := piece_at (show wx.heap[g]? = some (.cells #[.bool c.1, .int .i64 c.2.1.1, .int .i64 c.2.1.2, .slice r.1 r.2.1 r.2.2] 51 (0, 0)) from h.1)
theorem NewCk.up {wo wx w1 : World} {g : Nat} {r : CkV} {c : Ck} (h : NewCk wo wx g r c) (hb : Below wx.heap.size wx w1) : NewCk wo w1 g r c :=
  ⟨(hb.block _ (Array.getElem?_eq_some_iff.1 h.1).1).trans h.1, h.2.1, fun w2 h2 => h.2.2.1 w2 ((But.of_below hb fun k hk _ => hk).trans h2 fun k e => .inl e), h.2.2.2.trans (hb.mono h.2.2.2.size)⟩
/-- The flag is set. -/
theorem NewCk.flag {wo wx : World} {g : Nat} {r : CkV} {c : Ck} (h : NewCk wo wx g r c) (b : Bool) : NewCk wo (wx.setCell ⟨g, 0, none⟩ (.bool b)) g r (b, c.2) := by
  have hx : wx.heap[g]? = some (.cells #[.bool c.1, .int .i64 c.2.1.1, .int .i64 c.2.1.2, .slice r.1 r.2.1 r.2.2] 51 (0, 0)) := h.1
  have hb : But (fun k => k < wo.heap.size ∨ k = g) wx (wx.setCell ⟨g, 0, none⟩ (.bool b)) := But.setCell (F := fun k => k < wo.heap.size ∨ k = g) wx (p := ⟨g, 0, none⟩) (.inr rfl) _
  refine ⟨?_, h.2.1, fun w2 h2 => h.2.2.1 w2 (hb.trans h2 fun k e => .inl e), h.2.2.2.trans ((But.setCell (F := fun k => k = g) wx (p := ⟨g, 0, none⟩) rfl _).below h.2.2.2.size (by rintro k rfl; exact h.2.1))⟩
  show _ = some (Obj.cells #[.bool b, .int .i64 c.2.1.1, .int .i64 c.2.1.2, .slice r.1 r.2.1 r.2.2] 51 (0, 0))
  simp [World.setCell, Array.getElem?_modify, hx]
theorem ck_last_cells {W : World} {B g cap m N : Nat} {qs0 : List (CkV × Ck)} {q : CkV × Ck} (hm : qs0.length = m) (hN : m + 1 = N) (h : W.ownsRow B 51 4 (.slice (some ⟨g, 0, none⟩) N cap) N (cqCs (qs0 ++ [q]))) :
    W.cell? ⟨g, m * 4, none⟩ = some (.bool q.2.1) ∧ W.cell? ⟨g, m * 4 + 1, none⟩ = some (.int .i64 q.2.2.1.1) ∧ W.cell? ⟨g, m * 4 + 2, none⟩ = some (.int .i64 q.2.2.1.2) ∧ W.cell? ⟨g, m * 4 + 3, none⟩ = some (.slice q.1.1 q.1.2.1 q.1.2.2) := by
  have hq : (qs0 ++ [q])[m]? = some q := by rw [← hm]; simp
  exact ⟨(h.cellAt (m * 4) (by omega)).trans (cqCs_at _ m 0 _ hq (by omega)), (h.cellAt (m * 4 + 1) (by omega)).trans (cqCs_at _ m 1 _ hq (by omega)), (h.cellAt (m * 4 + 2) (by omega)).trans (cqCs_at _ m 2 _ hq (by omega)), (h.cellAt (m * 4 + 3) (by omega)).trans (cqCs_at _ m 3 _ hq (by omega))⟩

/-- One more chunk, out of a block of its own, behind pieces that a call made. -/
theorem aln_put {w wo wx wE w2 : World} {n g : Nat} {v v' : Value} {qs : List (CkV × Ck)} {r : CkV} {c : Ck} (hI : AlnIn w wo n v qs) (hN : NewCk wo wx g r c) (hb : Below wx.heap.size wx wE) (hw : c.2.2.length = n)
    (hown : w2.ownsRow (w.heap.size + 1) 51 4 v' (qs.length + 1) (cqCs qs ++ cqC (r, c))) (hg : (wE.alloc (ckObj (r, c))).grownBy w2 v.ownBlock) (hloc : v'.ownBlock = v.ownBlock ∨ v'.ownBlock = some (wE.alloc (ckObj (r, c))).heap.size) :
    w2.heap[w.heap.size]? = some (.cells #[.bool (lastQ qs).2.1, .int .i64 (lastQ qs).2.2.1.1, .int .i64 (lastQ qs).2.2.1.2, .slice (lastQ qs).1.1 (lastQ qs).1.2.1 (lastQ qs).1.2.2] 51 (0, 0)) ∧
    (w2.cell? ⟨g, 0, none⟩ = some (.bool c.1) ∧ w2.cell? ⟨g, 1, none⟩ = some (.int .i64 c.2.1.1) ∧ w2.cell? ⟨g, 2, none⟩ = some (.int .i64 c.2.1.2) ∧ w2.cell? ⟨g, 3, none⟩ = some (.slice r.1 r.2.1 r.2.2)) ∧
    AlnIn w ((((w2.setCell ⟨w.heap.size, 0, none⟩ (.bool c.1)).setCell ⟨w.heap.size, 1, none⟩ (.int .i64 c.2.1.1)).setCell ⟨w.heap.size, 2, none⟩ (.int .i64 c.2.1.2)).setCell ⟨w.heap.size, 3, none⟩ (.slice r.1 r.2.1 r.2.2)) n v' (qs ++ [(r, c)]) := by
  have hsz := (Array.getElem?_eq_some_iff.1 hI.box).1
  have hI3 := (hI.up hN.2.2.2).up hb
  obtain ⟨p1, p2⟩ := hI3.put (q := (r, c)) hI3.cks (fun q h => h) hw (hN.row hb (fun k e => (hI.cks.own.lt k e).2) hsz) hown hg hloc
  have hNE := hN.up hb
  have hge := hNE.2.1
  have hgl := (Array.getElem?_eq_some_iff.1 hNE.1).1
  have hgb : w2.heap[g]? = _ := ((hg.block g (by simp; omega) (fun e => by have := (hI.cks.own.lt g e.symm).2; omega)).trans (Below.heap_alloc wE _ g hgl)).trans hNE.1
  exact ⟨p1, ⟨(cells_of hgb 0).trans rfl, (cells_of hgb 1).trans rfl, (cells_of hgb 2).trans rfl, (cells_of hgb 3).trans rfl⟩, p2⟩
/-- The same where the last chunk was taken away ahead of it. -/
theorem aln_join {w wo wx w2 : World} {n g g1 m1 cap : Nat} {v' : Value} {qs0 : List (CkV × Ck)} {q0 : CkV × Ck} {r : CkV} {c : Ck} (hI : AlnIn w wo n (.slice (some ⟨g1, 0, none⟩) (m1 + 1) cap) (qs0 ++ [q0])) (hm : qs0.length = m1) (hN : NewCk wo wx g r c) (hw : c.2.2.length = n)
    (hown : w2.ownsRow (w.heap.size + 1) 51 4 v' (qs0.length + 1) (cqCs qs0 ++ cqC (r, c))) (hg : (wx.alloc (ckObj (r, c))).grownBy w2 (some g1)) (hloc : v'.ownBlock = some g1 ∨ v'.ownBlock = some (wx.alloc (ckObj (r, c))).heap.size) :
    w2.heap[w.heap.size]? = some (.cells #[.bool q0.2.1, .int .i64 q0.2.2.1.1, .int .i64 q0.2.2.1.2, .slice q0.1.1 q0.1.2.1 q0.1.2.2] 51 (0, 0)) ∧
    (w2.cell? ⟨g, 0, none⟩ = some (.bool c.1) ∧ w2.cell? ⟨g, 1, none⟩ = some (.int .i64 c.2.1.1) ∧ w2.cell? ⟨g, 2, none⟩ = some (.int .i64 c.2.1.2) ∧ w2.cell? ⟨g, 3, none⟩ = some (.slice r.1 r.2.1 r.2.2)) ∧
    AlnIn w ((((w2.setCell ⟨w.heap.size, 0, none⟩ (.bool c.1)).setCell ⟨w.heap.size, 1, none⟩ (.int .i64 c.2.1.1)).setCell ⟨w.heap.size, 2, none⟩ (.int .i64 c.2.1.2)).setCell ⟨w.heap.size, 3, none⟩ (.slice r.1 r.2.1 r.2.2)) n v' (qs0 ++ [(r, c)]) := by
  have hsz := (Array.getElem?_eq_some_iff.1 hI.box).1
  have hI3 := hI.up hN.2.2.2
  have hpop : CksO (w.heap.size + 1) wx (.slice (some ⟨g1, 0, none⟩) m1 cap) qs0 := hI3.cks.pop hm
  obtain ⟨p1, p2⟩ := hI3.put (q := (r, c)) hpop (fun q h => List.mem_append_left _ h) hw (hN.row (Below.refl _ _) (v := .slice (some ⟨g1, 0, none⟩) m1 cap) (fun k e => (hI.cks.own.lt k e).2) hsz) hown hg hloc
  rw [lastQ_snoc] at p1
  have hge := hN.2.1
  have hgl := (Array.getElem?_eq_some_iff.1 hN.1).1
  have hgb : w2.heap[g]? = _ := ((hg.block g (by simp; omega) (fun e => by have := (hI.cks.own.lt g e.symm).2; omega)).trans (Below.heap_alloc wx _ g hgl)).trans hN.1
  exact ⟨p1, ⟨(cells_of hgb 0).trans rfl, (cells_of hgb 1).trans rfl, (cells_of hgb 2).trans rfl, (cells_of hgb 3).trans rfl⟩, p2⟩
theorem longer_eq (c d : Ck) : longerC c d = (c.1, (c.2.1.1, d.2.1.2), joinS c.2.2 d.2.2) := by
  unfold longerC joinS
  rw [List.zip, List.map_zipWith]
end Go.Proofs.YtoopdgohdeddoaaGreatDoor
