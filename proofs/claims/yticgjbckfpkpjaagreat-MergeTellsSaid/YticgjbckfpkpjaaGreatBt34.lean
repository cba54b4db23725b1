/- Proved here: texts joined: MgLoop, MgCat, LinMay, MgLn, Tab. -/
import Derived.Test.YticgjbckfpkpjaaGreatBt01
import Derived.Test.YticgjbckfpkpjaaGreatBt02
import Derived.Test.YticgjbckfpkpjaaGreatBt03
import Derived.Test.YticgjbckfpkpjaaGreatBt06
import Derived.Test.YticgjbckfpkpjaaGreatBt16
import Derived.Test.YticgjbckfpkpjaaGreatBt19
import Derived.Test.YticgjbckfpkpjaaGreatBt27
import Derived.Test.YticgjbckfpkpjaaGreatBt33
import Derived.Lib.AppendZeros
import Derived.Lib.Bytealg
import Derived.WalkLawsBesides
import Derived.Deep.QuietTactic
import Derived.BigQuiet
import Derived.Lib.Hide
import Derived.Test.YticgjbckfpkpjaaGreatChecked
import Derived.Maps.OwnSet
import Derived.Maps.AppendAt
import Derived.Laws.LoneSync
/- Proved here: how far the landed merge.Chunks has come in its loop: sizes and matches, side by side. -/
namespace Go.Proofs.YticgjbckfpkpjaaGreat
open Go.RowKit
set_option linter.unusedVariables false
set_option maxRecDepth 100000

abbrev SlcN := Option Addr × Nat × Nat
def slcN (r : SlcN) : Value := .slice r.1 r.2.1 r.2.2

/-- What stays as it was when the loop began: pairs, and the blocks of sizes and matches. -/
structure ReadyK (w0 : World) (Gs Gm G n : Nat) (T lo hi : Nat → Nat) (a : List Int) (bs : List (List Int)) : Prop where
  pairs : PairsK w0 G n T lo hi a bs n
  gs : Gs < w0.heap.size
  gm : Gm < w0.heap.size
  ne : Gs ≠ Gm
  top : ∀ i, i < n → hi i ≤ Gs ∧ hi i ≤ Gm
  g : G < Gs ∧ G < Gm
  len : bs.length = n

/-- How far the loop has come. -/
structure LoopK (w0 wr : World) (Gs Gm n : Nat) (T : Nat → Nat) (a : List Int) (bs : List (List Int)) (sz : List Int) (M : Nat → SlcN) (k : Nat) : Prop where
  rs : wr.rowIs Gs 3 n (fun i => .int .i64 (if i < k then sz.getD i 0 else 0))
  rm : wr.rowIs Gm 69 n (fun i => if i < k then slcN (M i) else .slice none 0 0)
  mat : ∀ i b, i < k → bs[i]? = some b → (M i).2.1 = a.length ∧ (M i).2.1 ≤ (M i).2.2 ∧ (M i).2.2 ≤ maxLen ∧ Nums wr wr.heap.size (M i).1 (M i).2.1 (mt a b 0) ∧ ∀ q o, (M i).1 = some ⟨q, o, none⟩ → w0.heap.size ≤ q
  but : But (fun j => j = Gs ∨ j = Gm ∨ ∃ i, i < k ∧ j = T i) w0 wr

section
variable {w0 wo w1 : World} {Gs Gm G n k : Nat} {T lo hi : Nat → Nat} {a b : List Int} {bs : List (List Int)} {sz : List Int} {M : Nat → SlcN}
theorem ReadyK.at_ (h : ReadyK w0 Gs Gm G n T lo hi a bs) (i : Nat) (hi' : i < n) : ∃ b, bs[i]? = some b ∧ PairK w0 (T i) (lo i) (hi i) a b ∧ G < lo i ∧ T i < w0.heap.size ∧ T i ≠ Gs ∧ T i ≠ Gm ∧ T i ≠ G := by
  have hb : bs[i]? = some (bs[i]'(by have := h.len; omega)) := List.getElem?_eq_getElem _
  obtain ⟨p1, p2⟩ := h.pairs.pair i _ hi' hb
  have := p1.lt
  have := p1.top
  have := p1.le
  obtain ⟨t1, t2⟩ := h.top i hi'
  exact ⟨_, hb, p1, p2, by omega, by omega, by omega, by omega⟩
/-- The pair that comes next is as it was. -/
theorem LoopK.pair (hr : ReadyK w0 Gs Gm G n T lo hi a bs) (h : LoopK w0 wo Gs Gm n T a bs sz M k) (hk : k < n) (hb : bs[k]? = some b) : PairIs wo (T k) (fun j => j = T k) a b := by
  obtain ⟨p1, p2⟩ := hr.pairs.pair k b hk hb
  obtain ⟨t1, t2⟩ := hr.top k hk
  have pt := p1.top
  refine p1.pair wo h.but.size fun j j1 j2 => h.but.block j (by omega) ?_
  rintro (e | e | ⟨i, hi', e⟩)
  · omega
  · omega
  · obtain ⟨b', hb', q1, -⟩ := hr.at_ i (by omega)
    have := q1.lt
    have := hr.pairs.apart i k hi' hk
    omega
theorem LoopK.gcell (hr : ReadyK w0 Gs Gm G n T lo hi a bs) (h : LoopK w0 wo Gs Gm n T a bs sz M k) (hkn : k < n) : wo.cell? ⟨G, k, none⟩ = some (.pointer (some ⟨T k, 0, none⟩)) := by
  have hc := hr.pairs.row.cell hkn
  rw [if_pos hkn] at hc
  rw [← hc]
  obtain ⟨g1, g2⟩ := hr.g
  refine World.cell?_of_block (w := w0) (h.but.block G (by have := hr.gs; omega) ?_)
  rintro (e | e | ⟨i, hi', e⟩)
  · omega
  · omega
  · obtain ⟨b', hb', q1, q2, q3, q4, q5, q6⟩ := hr.at_ i (by omega)
    exact q6 e.symm
/-- One more match. -/
theorem LoopK.step (hr : ReadyK w0 Gs Gm G n T lo hi a bs) (h : LoopK w0 wo Gs Gm n T a bs sz M k) (hk : k < n) (hb : bs[k]? = some b) {A : Option Addr} {c : Nat} {z : Int} (hz : sz[k]? = some z) (hc1 : a.length ≤ c) (hc2 : c ≤ maxLen)
    (hN : Nums w1 w1.heap.size A a.length (mt a b 0)) (hA : ∀ q o, A = some ⟨q, o, none⟩ → wo.heap.size ≤ q) (hbut : But (fun j => j = T k) wo w1) :
    (w1.cell? ⟨Gs, k, none⟩ = some (.int .i64 0) ∧ w1.frozen? ⟨Gs, k, none⟩ = false ∧ w1.cell? ⟨Gm, k, none⟩ = some (.slice none 0 0) ∧ w1.frozen? ⟨Gm, k, none⟩ = false) ∧
    LoopK w0 ((w1.setCell ⟨Gs, k, none⟩ (.int .i64 z)).setCell ⟨Gm, k, none⟩ (.slice A a.length c)) Gs Gm n T a bs sz (fun i => if i = k then (A, a.length, c) else M i) (k + 1) := by
  obtain ⟨b', hb', -, -, t1, t2, t3, -⟩ := hr.at_ k hk
  have hs0 := h.but.size
  have hs1 := hbut.size
  have hgs := hr.gs
  have hgm := hr.gm
  have hne := hr.ne
  have rs1 := h.rs.of_block (hbut.block Gs (by omega) (fun e => t2 e.symm))
  have rm1 := h.rm.of_block (hbut.block Gm (by omega) (fun e => t3 e.symm))
  have rs2 := rs1.set k (.int .i64 z)
  have rm2 := rm1.setOther (show Gm ≠ (⟨Gs, k, none⟩ : Addr).block from fun e => hne e.symm) (.int .i64 z)
  have rs3 := rs2.setOther (show Gs ≠ (⟨Gm, k, none⟩ : Addr).block from hne) (.slice A a.length c)
  have rm3 := rm2.set k (.slice A a.length c)
  have hsz : ((w1.setCell ⟨Gs, k, none⟩ (.int .i64 z)).setCell ⟨Gm, k, none⟩ (.slice A a.length c)).heap.size = w1.heap.size := by simp [World.setCell]
  have hblk : ∀ j, j ≠ Gs → j ≠ Gm → ((w1.setCell ⟨Gs, k, none⟩ (.int .i64 z)).setCell ⟨Gm, k, none⟩ (.slice A a.length c)).heap[j]? = w1.heap[j]? := fun j j1 j2 => (Below.heap_setCell _ _ _ _ j2).trans (Below.heap_setCell _ _ _ _ j1)
  have keep : ∀ {A' : Option Addr} {m : Nat} {xs : List Int}, Nums w1 w1.heap.size A' m xs → (∀ q o, A' = some ⟨q, o, none⟩ → w0.heap.size ≤ q) → Nums ((w1.setCell ⟨Gs, k, none⟩ (.int .i64 z)).setCell ⟨Gm, k, none⟩ (.slice A a.length c)) ((w1.setCell ⟨Gs, k, none⟩ (.int .i64 z)).setCell ⟨Gm, k, none⟩ (.slice A a.length c)).heap.size A' m xs := by
    intro A' m xs hx hq
    refine ⟨hx.1, fun hm => ?_⟩
    obtain ⟨q, o, rfl, hlt, hc⟩ := hx.2 hm
    have := hq q o rfl
    exact ⟨q, o, rfl, by omega, fun j u hu => (World.cell?_of_block (w := w1) (hblk q (by omega) (by omega))).trans (hc j u hu)⟩
  refine ⟨⟨?_, rs1.frozen k, ?_, rm1.frozen k⟩, ⟨?_, ?_, ?_, ?_⟩⟩
  · rw [rs1.cell hk, if_neg (by omega)]
  · rw [rm1.cell hk, if_neg (by omega)]
  · refine rs3.congr fun i hi' => ?_
    rcases Nat.lt_trichotomy i k with e | rfl | e
    · rw [if_neg (by omega), if_pos e, if_pos (by omega)]
    · rw [if_pos rfl, if_pos (by omega), List.getD_eq_getElem?_getD, hz]; rfl
    · rw [if_neg (by omega), if_neg (by omega), if_neg (by omega)]
  · refine rm3.congr fun i hi' => ?_
    rcases Nat.lt_trichotomy i k with e | rfl | e
    · rw [if_neg (by omega), if_pos e, if_pos (by omega)]; (try dsimp only); rw [if_neg (by omega)]
    · rw [if_pos rfl, if_pos (by omega)]; (try dsimp only); rw [if_pos rfl]; rfl
    · rw [if_neg (by omega), if_neg (by omega), if_neg (by omega)]
  · intro i b2 hi' hb2
    by_cases e : i = k
    · subst e
      rw [hb] at hb2
      injection hb2 with hb2
      subst hb2
      (try dsimp only)
      rw [if_pos rfl]
      exact ⟨rfl, hc1, hc2, keep hN (fun q o e => by have := hA q o e; omega), fun q o e => by have := hA q o e; omega⟩
    · (try dsimp only)
      rw [if_neg e]
      obtain ⟨m1, m2, m3, m4, m5⟩ := h.mat i b2 (by omega) hb2
      have m4' : Nums w1 w1.heap.size (M i).1 (M i).2.1 (mt a b2 0) := by
        refine ⟨m4.1, fun hm => ?_⟩
        obtain ⟨q, o, e1, hlt, hc⟩ := m4.2 hm
        have := m5 q o e1
        exact ⟨q, o, e1, by omega, fun j u hu => (World.cell?_of_block (w := wo) (hbut.block q hlt (by omega))).trans (hc j u hu)⟩
      exact ⟨m1, m2, m3, keep m4' m5, m5⟩
  · have s0 : But (fun j => j = Gs ∨ j = Gm ∨ ∃ i, i < k + 1 ∧ j = T i) w0 wo := h.but.more fun j hj => by
      rcases hj with e | e | ⟨i, i1, i2⟩
      · exact .inl e
      · exact .inr (.inl e)
      · exact .inr (.inr ⟨i, by omega, i2⟩)
    have s1 : But (fun j => j = Gs ∨ j = Gm ∨ ∃ i, i < k + 1 ∧ j = T i) w0 w1 := s0.trans hbut fun j e => .inl (.inr (.inr ⟨k, by omega, e⟩))
    have s2 := s1.trans (But.setCell (F := fun j => j = Gs) w1 (p := ⟨Gs, k, none⟩) rfl (.int .i64 z)) fun j e => .inl (.inl e)
    exact s2.trans (But.setCell (F := fun j => j = Gm) (w1.setCell ⟨Gs, k, none⟩ (.int .i64 z)) (p := ⟨Gm, k, none⟩) rfl (.slice A a.length c)) fun j e => .inl (.inr (.inl e))
/-- At the end: sizes and matches, as they are read. -/
theorem LoopK.fin (hr : ReadyK w0 Gs Gm G n T lo hi a bs) (h : LoopK w0 wo Gs Gm n T a bs sz M n) (hsz : sz.length = n) :
    Nums wo wo.heap.size (some ⟨Gs, 0, none⟩) n sz ∧ RowsN wo wo.heap.size (some ⟨Gm, 0, none⟩) n ((List.range n).map M) (msOf a bs) := by
  refine ⟨reads_of_row h.rs _ (by simpa using hsz) fun i u hu => ?_, ⟨reads_of_row h.rm _ (by simp) fun i u hu => ?_, by simp [msOf, hr.len], fun k r xs h1 h2 => ?_⟩⟩
  · have hi' : i < n := by have := (List.getElem?_eq_some_iff.1 hu).1; simp at this; omega
    rw [if_pos hi', List.getD_eq_getElem?_getD]
    rw [List.getElem?_map] at hu
    cases hs : sz[i]? with
    | none => rw [hs] at hu; cases hu
    | some z => rw [hs] at hu; simpa using hu
  · have hi' : i < n := by have := (List.getElem?_eq_some_iff.1 hu).1; simpa using this
    rw [if_pos hi', ← Option.some_inj, ← hu]
    simp [hi', slcN]
  · have hk : k < n := by have := (List.getElem?_eq_some_iff.1 h1).1; simpa using this
    simp [hk] at h1
    subst h1
    unfold msOf at h2
    rw [List.getElem?_map] at h2
    cases hb : bs[k]? with
    | none => rw [hb] at h2; cases h2
    | some b =>
      rw [hb] at h2
      injection h2 with h2
      subst h2
      obtain ⟨m1, m2, m3, m4, m5⟩ := h.mat k b hk hb
      exact m4
end
end Go.Proofs.YticgjbckfpkpjaaGreat
/- Proved here: the contract of slices.Concat (and Grow) of two slices of slices of texts, the first of one. -/
namespace Go.Proofs.YticgjbckfpkpjaaGreat
open Go.RowKit
set_option linter.unusedVariables false
set_option maxRecDepth 100000

/-- Room for some slices of texts: a row of the call's own, without one. -/
def GrowOut (w w' : World) (e : Ending) : Prop := ∃ v, e = .returned v ∧ w'.ownsRow w.heap.size 22 1 v 0 [] ∧ Below w.heap.size w w'

set_option maxHeartbeats 1000000 in
theorem grow_any (n : Nat) (w : World) (h1 : 1 ≤ n) (hn : n ≤ 1000) :
    Calls Tryz.prog 50 #[.slice none 0 0, .int .i64 n] w fun e w' => GrowOut w w' e := by
  obtain ⟨i0, hi, hz⟩ := Option.map_eq_some_iff.1 infoTxs
  simp only [Prod.mk.injEq] at hz
  obtain ⟨hz0, hz1, hz2⟩ := hz
  have hap := Lib.run_append_nil_zeros (P := Tryz.prog) w 23 3 23 22 i0 (.slice none 0 0) .i64 .i64 Tryz.underlying23 Tryz.underlying3 hi hz0 n (by omega) (by rw [hz1]; decide) (by omega) (by rw [hz2]; omega)
  have hge := grownCap_ge w n 0 22
  have hle := grownCap_le_maxLen w n 0 22 (by unfold maxLen; omega)
  obtain ⟨C, hC⟩ : ∃ C, grownCap w n 0 22 = C := ⟨_, rfl⟩
  rw [hC] at hap hge hle
  obtain ⟨cs, hcs⟩ : ∃ cs, Builtin.zeroCells (Value.slice none 0 0).cells n ++ Builtin.zeroCells (Value.slice none 0 0).cells (C - n) = cs := ⟨_, rfl⟩
  have hsz : cs.size = C * 1 := by rw [← hcs]; simp [size_zeroCells, Value.cells]; omega
  rw [hcs] at hap
  have hw2 : (w.drew.alloc (.cells cs 22)).ownsRow w.heap.size 22 1 (.slice (some ⟨w.heap.size, 0, none⟩) 0 C) 0 [] :=
    ⟨rfl, .inr ⟨w.heap.size, C, cs, rfl, Nat.le_refl _, heap_alloc_new w.drew _, Nat.zero_le _, hle, hsz, by simp⟩⟩
  have hB : Below w.heap.size w (w.drew.alloc (.cells cs 22)) := (Below.refl _ _).drew.alloc (Nat.le_refl _) _
  have hfin := Lib.hid (And.intro hw2 hB)
  have hs0 : ∀ W : World, (Instr.slice 23 (.slice none 0 0) none (some (.int .i64 0)) none).run Tryz.prog W = .ok (.slice none 0 0) W := fun W => by
    rw [run_slice_h (P := Tryz.prog) W 23 none 0 0 Tryz.underlying23 .i64 0 (by omega) (by omega)]
    go_simp
  obtain ⟨G, hG⟩ : ∃ G, w.heap.size = G := ⟨_, rfl⟩
  have hs1 : ∀ W : World, (Instr.slice 23 (.slice (some ⟨G, 0, none⟩) n C) none (some (.int .i64 0)) none).run Tryz.prog W = .ok (.slice (some ⟨G, 0, none⟩) 0 C) W := fun W => by
    rw [run_slice_h (P := Tryz.prog) W 23 (some ⟨G, 0, none⟩) n C Tryz.underlying23 .i64 0 (by omega) (by omega)]
    go_simp
  rw [hG] at hap
  have hGh := Lib.hid hG
  have hn0 : (0 : Int) < (n : Int) := by omega
  have haph := Lib.hid hap
  clear hC hcs hsz hw2 hB hge hle hap hG
  go_enter Tryz.func50, Tryz.ntmps50
  go_wp2_with (at_builtin; refine Lib.wpList_append_run _ rfl _ _ _ _ rfl _ _ rfl rfl _ _ haph.out ?_)
  go_ret
  exact ⟨_, rfl, by rw [← hGh.out]; exact hfin.out.1, hfin.out.2⟩

/-- Slices of texts one behind the other. -/
def CatOut (w w' : World) (e : Ending) (rs : List Slc) : Prop := ∃ A n c, e = .returned (.slice A n c) ∧ n = rs.length ∧ n ≤ c ∧ c ≤ maxLen ∧ Reads w' w'.heap.size A n (rs.map slcV) ∧ Below w.heap.size w w'

set_option maxHeartbeats 2000000 in
theorem concat_any (Ao : Option Addr) (co : Nat) (A1 : Option Addr) (A2 : Option Addr) (n c : Nat) (r0 : Slc) (rows : List Slc) (w : World) (h1 : 1 ≤ n) (hn : n ≤ 100) (hO : Reads w w.heap.size Ao 2 [.slice A1 1 1, .slice A2 n c]) (hA1 : Reads w w.heap.size A1 1 ([r0].map slcV)) (hA2 : Reads w w.heap.size A2 n (rows.map slcV)) :
    Calls Tryz.prog 27 #[.slice Ao 2 co] w fun e w' => CatOut w w' e (r0 :: rows) := by
  obtain ⟨i0, hi, hz⟩ := Option.map_eq_some_iff.1 infoTxs
  simp only [Prod.mk.injEq] at hz
  obtain ⟨hz0, hz1, hz2⟩ := hz
  have hrl : rows.length = n := by have := hA2.1; simpa using this
  obtain ⟨bo, oo, rfl, hbo, hco⟩ := hO.2 (by omega)
  have hc0 := hco 0 (.slice A1 1 1) rfl
  have hc1 := hco 1 (.slice A2 n c) rfl
  rw [Nat.add_zero] at hc0
  obtain ⟨N, hN⟩ : ∃ N, n + 1 = N := ⟨_, rfl⟩
  have hG := Lib.hid (fun W => grow_any N W (by omega) (by omega))
  have hA1h := Lib.hid hA1
  have hA2h := Lib.hid hA2
  have hrlh := Lib.hid hrl
  have hm : Hid (0 + 1 ≤ maxLen ∧ (0 + 1) * 24 ≤ 140737488355328 ∧ 1 + n ≤ maxLen ∧ (1 + n) * 24 ≤ 140737488355328) := Lib.hid ⟨by unfold maxLen; omega, by omega, by unfold maxLen; omega, by omega⟩
  have hsum : (1 : Int) + (n : Int) = (N : Int) := by omega
  have hNh := Lib.hid hN
  have hd0 := Lib.hid hc0
  have hd1 := Lib.hid hc1
  clear hO hA1 hA2 hco hrl hN
  go_enter Tryz.func27, Tryz.ntmps27
  go_wp2
  go_loop [3, 11] (fun s i => (i = .int .i64 0 ∧ s = .int .i64 0) ∨ (i = .int .i64 1 ∧ s = .int .i64 1) ∨ (i = .int .i64 2 ∧ s = .int .i64 N)) (fun _ i => 2 - (intOf i).toNat)
  case atStart => exact .inl ⟨rfl, rfl⟩
  case round =>
    obtain ⟨rfl, rfl⟩ | ⟨rfl, rfl⟩ | ⟨rfl, rfl⟩ := hrel
    · go_wp2
      go_round
      case rel => exact .inr (.inl ⟨rfl, rfl⟩)
      case measure => simp [intOf]
    · go_wp2
      go_round
      case rel => exact .inr (.inr ⟨rfl, rfl⟩)
      case measure => simp [intOf]
    · go_wp2_with (go_at_call 50; refine (hG.out _).mono ?_; rintro e w1 ⟨v, rfl, hown, hb1⟩)
      clear hc0 hc1
      go_wp2
      go_loopw [6, 27] (fun sv i wr => ∃ v, v = sv ∧ Below w.heap.size w wr ∧ ((i = .int .i64 0 ∧ wr.ownsRow w.heap.size 22 1 v 0 []) ∨ (i = .int .i64 1 ∧ wr.ownsRow w.heap.size 22 1 v 1 ([r0].map slcV)) ∨ (i = .int .i64 2 ∧ wr.ownsRow w.heap.size 22 1 v N ((r0 :: rows).map slcV)))) (fun _ i _ => 2 - (intOf i).toNat)
      case atStart => exact ⟨v, rfl, hb1, .inl ⟨rfl, hown⟩⟩
      case round =>
        clear hown hb1
        obtain ⟨v, rfl, hbw, ⟨rfl, hown⟩ | ⟨rfl, hown⟩ | ⟨rfl, hown⟩⟩ := hrel
        · obtain ⟨wo, rfl⟩ : ∃ wo : World, wo = wr := ⟨_, rfl⟩
          have hcc0 := (hbw.cell (p := ⟨bo, oo, none⟩) hbo).trans hd0.out
          have hsz := hbw.size
          go_wp2_with (at_builtin; refine wpList_append_reads _ rfl _ _ 23 rfl w.heap.size 22 i0 (.slice none 0 0) 24 Tryz.underlying23 hi hz0 hz1 hz2 rfl v 0 [] rfl hown w.heap.size A1 1 1 _ rfl (hA1h.out.below hbw) (slcV_one _) hm.out.1 hm.out.2.1 hsz ?_; intro v2 w2 hown2 hg2)
          go_roundw
          case rel => exact ⟨v2, rfl, hbw.grown hg2 hsz (fun j e => (hown.lt j e).1), .inr (.inl ⟨rfl, by simpa using hown2⟩)⟩
          case measure => simp [intOf]
        · obtain ⟨wo, rfl⟩ : ∃ wo : World, wo = wr := ⟨_, rfl⟩
          have hcc1 := (hbw.cell (p := ⟨bo, oo + 1, none⟩) hbo).trans hd1.out
          have hsz := hbw.size
          go_wp2_with (at_builtin; refine wpList_append_reads _ rfl _ _ 23 rfl w.heap.size 22 i0 (.slice none 0 0) 24 Tryz.underlying23 hi hz0 hz1 hz2 rfl v 1 _ rfl hown w.heap.size A2 n c _ rfl (hA2h.out.below hbw) (slcV_one _) hm.out.2.2.1 hm.out.2.2.2 hsz ?_; intro v2 w2 hown2 hg2)
          go_roundw
          case rel => exact ⟨v2, rfl, hbw.grown hg2 hsz (fun j e => (hown.lt j e).1), .inr (.inr ⟨rfl, by rw [← hNh.out, Nat.add_comm n 1]; simpa using hown2⟩)⟩
          case measure => simp [intOf]
        · go_wp2
          go_ret
          obtain ⟨A, k, rfl, k1, k2, k3⟩ := own_slice hown
          exact ⟨A, N, k, rfl, by rw [List.length_cons, hrlh.out, hNh.out], k1, k2, k3, hbw⟩
end Go.Proofs.YticgjbckfpkpjaaGreat
/- Proved here: contracts of the landed package lines: firstEnd, May (each for strings of at most maxLen bytes); for stages behind the first: NOT beside stage 1's Lines, which has the same names. -/
namespace Go.Proofs.YticgjbckfpkpjaaGreat
open Go.RowKit
set_option linter.unusedVariables false

set_option maxRecDepth 100000 in
set_option maxHeartbeats 400000 in
theorem indexByteL_any (s : ByteArray) (c : Int) (w : World) :
    Calls Tryz.prog 116 #[.string s, .int .u8 c] w fun e w' => e = .returned (.int .i64 (Lib.indexByte s.data.toList c.toNat.toUInt8)) ∧ w' = w := by
  go_enter Tryz.func116, Tryz.ntmps116
  go_wp2
  rw [run_callFunc_extern Tryz.func128 (by kernel_rfl) (by kernel_rfl) (by kernel_rfl) (e := Extern.BytealgIndexByte.indexByte) (by kernel_rfl), Lib.run_indexByteString]
  simp only [Result.andThen]
  rw [Oper.upon_value]
  go_wp2
  go_ret
  exact ⟨rfl, rfl⟩
set_option maxRecDepth 100000 in
set_option maxHeartbeats 400000 in
theorem indexByte_any (s : ByteArray) (c : Int) (w : World) :
    Calls Tryz.prog 103 #[.string s, .int .u8 c] w fun e w' => e = .returned (.int .i64 (Lib.indexByte s.data.toList c.toNat.toUInt8)) ∧ w' = w := by
  go_enter Tryz.func103, Tryz.ntmps103
  go_wp2_with (go_at_call 116; refine (indexByteL_any _ _ _).mono ?_; rintro e w' ⟨rfl, rfl⟩)
  go_ret
  exact ⟨rfl, rfl⟩

set_option maxRecDepth 100000 in
set_option maxHeartbeats 400000 in
theorem firstEnd_any (s : ByteArray) (w : World) (hs : s.size ≤ maxLen) :
    Calls Tryz.prog 88 #[.string s] w fun e w' => e = .returned (.int .i64 (fe s.data.toList)) ∧ w = w' := by
  unfold maxLen at hs
  have hf := fe_le s.data.toList
  have hx := fe_index s.data.toList
  have hz : s.data.toList.length = s.size := (Lib.size_eq s).symm
  obtain ⟨i, hi⟩ : ∃ i, i = Lib.indexByte s.data.toList 10 := ⟨_, rfl⟩
  rw [← hi, hz] at hx
  rw [hz] at hf
  have hi' := Lib.hid hi
  have hb : i ≤ s.size ∧ -1 ≤ i := by
    have := Lib.indexByte_ge s.data.toList 10
    split at hx <;> omega
  obtain ⟨f, hf'⟩ : ∃ f, f = fe s.data.toList := ⟨_, rfl⟩
  rw [← hf'] at hx hf ⊢
  by_cases h0 : 0 ≤ i
  · rw [if_pos h0] at hx
    have hib : i + 1 ≤ s.size := by omega
    have hh := Lib.hid hx
    clear hi hx hf'
    go_enter Tryz.func88, Tryz.ntmps88
    go_wp2_with (go_at_call 103; refine (indexByte_any _ _ _).mono ?_; rintro e w' ⟨rfl, rfl⟩; rw [show Lib.indexByte s.data.toList (10 : Int).toNat.toUInt8 = i from hi'.out.symm])
    go_ret
    exact ⟨ret_int (by rw [hh.out]), rfl⟩
  · rw [if_neg h0] at hx
    have hh := Lib.hid hx
    clear hi hx hf'
    go_enter Tryz.func88, Tryz.ntmps88
    go_wp2_with (go_at_call 103; refine (indexByte_any _ _ _).mono ?_; rintro e w' ⟨rfl, rfl⟩; rw [show Lib.indexByte s.data.toList (10 : Int).toNat.toUInt8 = i from hi'.out.symm])
    go_ret
    exact ⟨ret_int (by rw [hh.out]), rfl⟩
section
variable {ss : List (List UInt8)} {k n : Nat} {t : List UInt8}
theorem may_a (hm : mayB ss = mayB (ss.drop k)) (hd : ss.drop k = t :: ss.drop (k + 1)) (h : (str t).toList = []) : false = mayB ss := by
  have := data_nil h
  rw [str_data] at this
  subst this
  rw [hm, hd]; rfl
theorem may_b (hm : mayB ss = mayB (ss.drop k)) (hd : ss.drop k = t :: ss.drop (k + 1)) (h : (str t).toList.isEmpty = true ∨ fe (str t).data.toList < (str t).size) : false = mayB ss := by
  rw [ByteArray.toList_eq, str_data, str_size] at h
  rw [hm, hd, mayB]
  rcases h with h | h <;> simp [h]
theorem may_c (hl : ss.length = n) (hm : mayB ss = mayB (ss.drop k)) (hd : ss.drop k = t :: ss.drop (k + 1)) (h2 : (k : Int) < (n : Int) - 1) (h : (!endedB (str t).data.toList) = true) : false = mayB ss := by
  rw [str_data] at h
  have h' : endedB t = false := by simpa using h
  have hne : (ss.drop (k + 1)).isEmpty = false := by
    rw [Bool.eq_false_iff, ne_eq, List.isEmpty_iff]
    intro e
    have := congrArg List.length e
    rw [List.length_drop] at this
    simp at this
    omega
  rw [hm, hd, mayB, h', hne]
  simp
theorem may_go (hm : mayB ss = mayB (ss.drop k)) (hd : ss.drop k = t :: ss.drop (k + 1)) (h1 : (str t).toList.isEmpty = false ∧ ¬ fe (str t).data.toList < (str t).size) (he : (ss.drop (k + 1)).isEmpty = true ∨ endedB t = true) : mayB ss = mayB (ss.drop (k + 1)) := by
  rw [ByteArray.toList_eq, str_data, str_size] at h1
  rw [hm, hd, mayB]
  rcases he with he | he <;> simp [h1.1, h1.2, he]
end

set_option maxRecDepth 100000 in
set_option maxHeartbeats 400000 in
theorem lMay_any (A : Option Addr) (n c B : Nat) (ss : List (List UInt8)) (w : World) (hn : n ≤ maxLen) (hs : ∀ s ∈ ss, s.length ≤ maxLen) (hA : Strs w B A n ss) :
    Calls Tryz.prog 53 #[.slice A n c] w fun e w' => e = .returned (.bool (mayB ss)) ∧ w = w' := by
  unfold maxLen at hn
  have hl := hA.len
  go_enter Tryz.func53, Tryz.ntmps53
  go_wp2
  go_loop [11] (fun i => ∃ k : Nat, k ≤ n ∧ i = .int .i64 k ∧ Hid (mayB ss = mayB (ss.drop k))) (fun i => n - (intOf i).toNat)
  case atStart => exact ⟨0, Nat.zero_le _, rfl, Lib.hid rfl⟩
  case round =>
    obtain ⟨k, hk, rfl, hm⟩ := hrel
    by_cases hlt : k < n
    · obtain ⟨b, o, t, rfl, _, ht, hc⟩ := hA.at_ (k := k) hlt
      have htl : t.length ≤ maxLen := hs t (List.mem_of_getElem? ht)
      have hd := Lib.hid (drop_at ht)
      go_wp2_with (first
        | (go_at_call 88; refine (firstEnd_any (str t) _ (by rw [str_size]; exact htl)).mono ?_; rintro e w' ⟨rfl, rfl⟩)
        | (go_at_call 89; refine (ended_any (str t) _ (by rw [str_size]; exact htl)).mono ?_; rintro e w' ⟨rfl, rfl⟩))
      · go_ret; exact ⟨ret_bool (may_a hm.out hd.out ‹_›), rfl⟩
      · go_ret; exact ⟨ret_bool (may_b hm.out hd.out ‹_›), rfl⟩
      · go_ret; exact ⟨ret_bool (may_c hl hm.out hd.out ‹_› ‹_›), rfl⟩
      · have h1 : (str t).toList.isEmpty = false ∧ ¬fe (str t).data.toList < (str t).size := by assumption
        have h2 : (!endedB (str t).data.toList) = false := by assumption
        go_round
        case rel => exact ⟨k + 1, by omega, by go_num, Lib.hid (may_go hm.out hd.out h1 (.inr (by rw [str_data] at h2; simpa using h2)))⟩
        case measure => simp [intOf]; omega
      · have h1 : (str t).toList.isEmpty = false ∧ ¬fe (str t).data.toList < (str t).size := by assumption
        go_round
        case rel => exact ⟨k + 1, by omega, by go_num, Lib.hid (may_go hm.out hd.out h1 (.inl (by rw [List.drop_of_length_le (by omega)]; rfl)))⟩
        case measure => simp [intOf]; omega
    · go_wp2
      go_ret
      have : k = n := by omega
      subst this
      exact ⟨ret_bool (by rw [hm.out, List.drop_of_length_le (by omega)]; rfl), rfl⟩
end Go.Proofs.YticgjbckfpkpjaaGreat
/- Proved here: the contract of the landed merge.areLines: whether all files may be lines. -/
namespace Go.Proofs.YticgjbckfpkpjaaGreat
open Go.RowKit
set_option linter.unusedVariables false
set_option maxRecDepth 100000

theorem notMay_any (A : Option Addr) (n c B : Nat) (ss : Txs) (w : World) (hn : n ≤ maxLen) (hs : ∀ s ∈ ss, s.length ≤ maxLen) (hA : Strs w B A n ss) :
    Calls Tryz.prog 52 #[.slice A n c] w fun e w' => e = .returned (.bool (!mayB ss)) ∧ w = w' := by
  have hM := Lib.hid (lMay_any A n c B ss w hn hs hA)
  obtain ⟨r, hr⟩ : ∃ r, mayB ss = r := ⟨_, rfl⟩
  rw [hr] at hM ⊢
  clear hA hr
  go_enter Tryz.func52, Tryz.ntmps52
  go_wp2_with (go_at_call 53; refine hM.out.mono ?_; rintro e w1 ⟨rfl, rfl⟩)
  go_ret
  exact ⟨rfl, rfl⟩

/-- Where a file stands that may not be lines; below 0, if none does. -/
def BadOut (w w' : World) (e : Ending) (files : List Txs) : Prop := ∃ z, e = .returned (.int .i64 z) ∧ decide (0 ≤ z) = !files.all mayB ∧ w = w'
theorem bad_at {w : World} {files : List Txs} {k : Nat} {f : Txs} (h : files[k]? = some f) (hf : mayB f = false) : BadOut w w (.returned (.int .i64 k)) files := by
  refine ⟨k, rfl, ?_, rfl⟩
  have : files.all mayB = false := by
    rw [List.all_eq_false]
    exact ⟨f, List.mem_of_getElem? h, by rw [hf]; simp⟩
  rw [this]
  simp
theorem bad_no {w : World} {files : List Txs} (h : files.all mayB = true) : BadOut w w (.returned (.int .i64 (-1))) files := by
  refine ⟨-1, rfl, ?_, rfl⟩
  rw [h]
  simp

set_option maxHeartbeats 1000000 in
theorem badIdx_any (A : Option Addr) (n c : Nat) (rows : List Slc) (files : List Txs) (w : World) (hn : n ≤ maxLen) (hA : RowsT w w.heap.size A n rows files) (hs : ∀ f ∈ files, ∀ s ∈ f, s.length ≤ maxLen) :
    Calls Tryz.prog 87 #[.slice A n c, .func (.func 52) #[] #[]] w fun e w' => BadOut w w' e files := by
  have hl := hA.len
  have hAh := Lib.hid hA
  have hlh := Lib.hid hl
  have hsh := Lib.hid hs
  unfold maxLen at hn
  clear hA hl hs
  go_enter Tryz.func87, Tryz.ntmps87
  go_wp2
  go_loop [5, 8] (fun _ i => ∃ k : Nat, k ≤ n ∧ i = .int .i64 k ∧ Hid ((files.take k).all mayB = true)) (fun _ i => n - (intOf i).toNat)
  case atStart => exact ⟨0, Nat.zero_le _, rfl, Lib.hid (by simp)⟩
  case round =>
    obtain ⟨k, hk, rfl, hno⟩ := hrel
    by_cases hlt : k < n
    · obtain ⟨b, o, A1, n1, c1, ss, rfl, hb, hss, -, hc, hnc, hcm, hS⟩ := hAh.out.at_ (k := k) hlt
      have hi1 : (0 : Int) ≤ (k : Int) := by omega
      have hi2 : (k : Int) < (n : Int) := by omega
      have hC := Lib.hid (notMay_any A1 n1 c1 w.heap.size ss w (by omega) (hsh.out ss (List.mem_of_getElem? hss)) hS)
      have hssh := Lib.hid hss
      clear hS hss
      obtain ⟨r, hr⟩ : ∃ r, mayB ss = r := ⟨_, rfl⟩
      have hrh := Lib.hid hr
      rw [hr] at hC
      clear hr
      cases r
      · have hfin := Lib.hid (bad_at (w := w) hssh.out hrh.out)
        go_wp2_with (go_at_call 52; refine hC.out.mono ?_; rintro e w1 ⟨rfl, rfl⟩)
        go_ret
        exact hfin.out
      · have hno2 : (files.take (k + 1)).all mayB = true := by
          rw [take_at hssh.out, List.all_append, hno.out]
          simp [hrh.out]
        have hno3 := Lib.hid hno2
        clear hno2
        go_wp2_with (go_at_call 52; refine hC.out.mono ?_; rintro e w1 ⟨rfl, rfl⟩)
        go_round
        case rel => exact ⟨k + 1, by omega, by go_num, hno3⟩
        case measure => simp [intOf]; omega
    · obtain rfl : k = n := by omega
      have hfin := Lib.hid (bad_no (w := w) (files := files) (by have := hno.out; rwa [List.take_of_length_le (by rw [hlh.out]; exact Nat.le_refl _)] at this))
      go_wp2
      go_ret
      exact hfin.out

theorem badHas_any (A : Option Addr) (n c : Nat) (rows : List Slc) (files : List Txs) (w : World) (hn : n ≤ maxLen) (hA : RowsT w w.heap.size A n rows files) (hs : ∀ f ∈ files, ∀ s ∈ f, s.length ≤ maxLen) :
    Calls Tryz.prog 51 #[.slice A n c, .func (.func 52) #[] #[]] w fun e w' => e = .returned (.bool (!files.all mayB)) ∧ w = w' := by
  have hI := Lib.hid (badIdx_any A n c rows files w hn hA hs)
  obtain ⟨r, hr⟩ : ∃ r, (!files.all mayB) = r := ⟨_, rfl⟩
  rw [hr]
  have hrh := Lib.hid hr
  clear hA hs hr
  go_enter Tryz.func51, Tryz.ntmps51
  go_wp2_with (go_at_call 87; refine hI.out.mono ?_; rintro e w1 ⟨z, rfl, hz, rfl⟩; rw [hrh.out] at hz; have hzh := Lib.hid hz; clear hz)
  go_ret
  exact ⟨ret_bool (by rw [← hzh.out]), rfl⟩

/-- Whether all files may be lines. -/
theorem areLines_any (A : Option Addr) (n c : Nat) (rows : List Slc) (files : List Txs) (w : World) (hn : n ≤ maxLen) (hA : RowsT w w.heap.size A n rows files) (hs : ∀ f ∈ files, ∀ s ∈ f, s.length ≤ maxLen) :
    Calls Tryz.prog 28 #[.slice A n c] w fun e w' => e = .returned (.bool (files.all mayB)) ∧ w = w' := by
  have hI := Lib.hid (badHas_any A n c rows files w hn hA hs)
  obtain ⟨r, hr⟩ : ∃ r, files.all mayB = r := ⟨_, rfl⟩
  rw [hr] at hI ⊢
  clear hA hs hr
  go_enter Tryz.func28, Tryz.ntmps28
  go_wp2_with (go_at_call 51; refine hI.out.mono ?_; rintro e w1 ⟨rfl, rfl⟩)
  go_ret
  exact ⟨ret_bool (by simp), rfl⟩
end Go.Proofs.YticgjbckfpkpjaaGreat
/- Proved here, without conditions: when blocks of a world are a table of texts, and what keeps them so. -/
namespace Go.Proofs.YticgjbckfpkpjaaGreat
open Go.RowKit Go.Maps Go.WideMaps
set_option linter.unusedVariables false

/-- What a text reads as, as a key. -/
def keyL (s : List UInt8) : Lit := .string s
/-- A number as a datum. -/
def numD (i : Nat) : DataW Unit := .lit (.int .i64 i)

theorem law9 : Keyed Tryz.prog 9 := string_keyed Tryz.underlying9
theorem zero3 (w : World) : (zeroValue 3).run Tryz.prog w = .ok (.int .i64 0) w := by kernel_rfl
theorem key_of {s : List UInt8} (h : s.length ≤ maxLen) : keyOf Tryz.prog 9 (.string (str s)) = some (keyL s) := by
  have := keyOf_string_mk (P := Tryz.prog) (k := 9) Tryz.underlying9 (s := str s) (by rw [str_size]; exact h)
  rwa [str_data] at this
theorem keyL_key (s : List UInt8) : WideAt.IsKeyLit (keyL s) := by unfold keyL; trivial
theorem keyL_inj {s t : List UInt8} (h : keyL s = keyL t) : s = t := by injection h

/-- The datum D tells each text of ts its number, and knows no other text. -/
def Tells (D : DataW Unit) (ts : List (List UInt8)) : Prop :=
  IsMap D ∧ (∀ s, Maps.has D (keyL s) = ts.contains s) ∧ ∀ i s, ts[i]? = some s → ∀ z, D.atKey (keyL s) z = numD i
theorem tells_nil : Tells (.map []) [] := ⟨isMap_empty, fun _ => rfl, fun _ _ h => by simp at h⟩
theorem Tells.put {D : DataW Unit} {ts : List (List UInt8)} {s : List UInt8} (h : Tells D ts) (hs : s ∉ ts) : Tells (D.put (keyL s) (numD ts.length)) (ts ++ [s]) := by
  refine ⟨h.1.put _ _, fun t => ?_, fun i t ht z => ?_⟩
  · by_cases e : t = s
    · subst e
      rw [has_put_same h.1 (keyL_key _)]
      simp
    · rw [has_put_other (fun e' => e (keyL_inj e')), h.2.1]
      simp [e]
  · rcases Nat.lt_or_ge i ts.length with hi | hi
    · rw [List.getElem?_append_left hi] at ht
      have hm : t ∈ ts := List.mem_of_getElem? ht
      rw [atKey_put_other (fun e => hs (by rw [← keyL_inj e]; exact hm))]
      exact h.2.2 i t ht z
    · rw [List.getElem?_append_right hi] at ht
      have h0 : i = ts.length := by
        rcases Nat.eq_zero_or_pos (i - ts.length) with h0 | h0
        · omega
        · rw [List.getElem?_eq_none (by simp; omega)] at ht; cases ht
      subst h0
      simp at ht
      subst ht
      rw [atKey_put_same h.1 (keyL_key _)]

/-- The map in a table's first field. -/
def MapIs (w : World) (F : Nat → Prop) (m : Value) (ts : List (List UInt8)) : Prop :=
  (m = .map none ∧ ts = []) ∨ ∃ bm D, m = .map (some bm) ∧ F bm ∧ w.ownsMap Tryz.prog 9 (plainElem Tryz.prog 3) bm ts.length D ∧ Tells D ts

/-- Block T is a table of the texts ts, of which the blocks of F are part. -/
structure Tab (w : World) (T : Nat) (F : Nat → Prop) (ts : List (List UInt8)) : Prop where
  nodup : ts.Nodup
  few : ts.length ≤ 1000000
  texts : ∀ s ∈ ts, s.length ≤ maxLen
  head : F T
  lies : ∀ k, F k → T ≤ k ∧ k < w.heap.size
  rest : ∃ m v, w.heap[T]? = some (.cells #[m, v, .int .i64 ts.length] 145 (0, 0)) ∧ w.ownsRow (T + 1) 9 1 v ts.length (ts.map fun s => .string (str s)) ∧ (∀ k, v.ownBlock = some k → F k) ∧ MapIs w F m ts

section
variable {F F' : Nat → Prop} {w w' : World} {T : Nat} {ts : List (List UInt8)}
theorem MapIs.kept {m : Value} (h : MapIs w F m ts) (hk : ∀ k, F k → k < w.heap.size → w'.heap[k]? = w.heap[k]?) : MapIs w' F m ts := by
  rcases h with h | ⟨bm, D, hm, hF, ⟨es, clock, hb, r⟩, hD⟩
  · exact .inl h
  · exact .inr ⟨bm, D, hm, hF, ⟨es, clock, (hk bm hF (Array.getElem?_eq_some_iff.1 hb).1).trans hb, r⟩, hD⟩
/-- A table stays what it is while none of its blocks turns. -/
theorem Tab.kept (h : Tab w T F ts) (hs : w.heap.size ≤ w'.heap.size) (hk : ∀ k, F k → k < w.heap.size → w'.heap[k]? = w.heap[k]?) : Tab w' T F ts := by
  obtain ⟨m, v, h1, h2, h3, h4⟩ := h.rest
  have hl := h.lies
  refine ⟨h.nodup, h.few, h.texts, h.head, fun k hf => ⟨(hl k hf).1, by have := (hl k hf).2; omega⟩, m, v, ?_, ?_, h3, h4.kept hk⟩
  · rw [hk T h.head (hl T h.head).2]; exact h1
  · exact ownsRow_kept h2 fun k e => hk k (h3 k e) (hl k (h3 k e)).2
theorem Tab.but {G : Nat → Prop} (h : Tab w T F ts) (hb : But G w w') (hG : ∀ k, F k → ¬ G k) : Tab w' T F ts := h.kept hb.size fun k hf hk => hb.block k hk (hG k hf)
theorem Tab.below {B : Nat} (h : Tab w T F ts) (hb : Below B w w') (hB : w.heap.size ≤ B) : Tab w' T F ts := h.kept hb.size fun k _ hk => hb.block k (by omega)
theorem Tab.drew (h : Tab w T F ts) : Tab w.drew T F ts := h.kept (Nat.le_refl _) fun _ _ _ => rfl
theorem Tab.drewN (h : Tab w T F ts) (n : Nat) : Tab (w.drewN n) T F ts := h.kept (Nat.le_refl _) fun _ _ _ => rfl
end
end Go.Proofs.YticgjbckfpkpjaaGreat
