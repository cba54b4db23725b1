/- Proved here: texts joined: MgCov, MgSum, ContFns, ContAsk, RowF. -/
import Derived.Test.YticgjbckfpkpjaaGreatBu03
import Derived.Test.YticgjbckfpkpjaaGreatBu04
import Derived.Test.YticgjbckfpkpjaaGreatBu06
import Derived.Test.YticgjbckfpkpjaaGreatBu08
import Derived.Test.YticgjbckfpkpjaaGreatBu20
import Derived.RangeFuncBox
import Derived.Test.YticgjbckfpkpjaaGreatChecked
import Derived.Deep.OwnRows
/- Proved here, without conditions on the program: a merge's chunks have parts; how many there are. -/
namespace Go.Proofs.YticgjbckfpkpjaaGreat
open Go.RowKit
set_option linter.unusedVariables false

/-- A chunk of a base, and sides, has parts. -/
theorem laid_parts {base : Txs} {sides : List Txs} {ms : List (List Int)} {cs : List Ck} (h : Laid base sides ms cs) {c : Ck} (hc : c ∈ cs) : partErr c base sides = 0 ∧ partBase c base sides = cutB c base ∧ partSides c base sides = cutsP c sides := by
  obtain ⟨h1, h2, h3, h4⟩ := h.lies hc
  have he : partErr c base sides = 0 := err_none h4 ⟨by unfold inB; simp; omega, fun i s l hi a b => by
    obtain ⟨sp, p1, p2, p3, p4, _⟩ := h.side hc b
    rw [a] at p1
    injection p1 with p1
    subst p1
    unfold inB
    simp
    omega⟩
  refine ⟨he, ?_, ?_⟩
  · unfold partBase; rw [if_pos he]; rfl
  · unfold partSides; rw [if_pos he]; rfl
theorem cutL_le {α : Type} (l : List α) (f t : Int) : (cutL l f t).length ≤ l.length := by
  unfold cutL
  simp
  omega
theorem cutL_mem {α : Type} {l : List α} {f t : Int} {x : α} (h : x ∈ cutL l f t) : x ∈ l := by
  unfold cutL at h
  exact List.mem_of_mem_drop (List.mem_of_mem_take h)
/-- Texts of pieces, each no longer than so many. -/
theorem sumT_most {ps : List Pc} {m : Nat} (h : ∀ p ∈ ps, p.2.1.length ≤ m) : sumT ps ≤ ps.length * m := by
  induction ps with
  | nil => simp [sumT]
  | cons p ps ih =>
    rw [sumT_cons, List.length_cons, Nat.succ_mul]
    have h1 := h p (List.mem_cons_self ..)
    have h2 := ih fun q hq => h q (List.mem_cons_of_mem _ hq)
    omega
/-- There are no more chunks than twice the places, and one. -/
theorem cov_few {m : Int} {sizes : List Int} : ∀ {cs : List Ck} {prev : Option Bool} {b : Int} {a : List Int}, Cov m sizes cs prev b a → (cs.length : Int) ≤ 2 * (m - b) + (if prev = some false then 0 else 1)
  | [], prev, b, a, h => by
    have := h.2
    subst this
    simp
    split <;> omega
  | c :: cs, prev, b, a, h => by
    obtain ⟨h1, h2⟩ := h
    have ih := cov_few h2
    have hle := h1.le
    have halt := h1.alt
    rw [List.length_cons]
    cases hc : c.1
    · rw [hc] at ih halt
      rw [if_pos rfl] at ih
      rw [if_neg halt]
      push_cast
      omega
    · have ho := h1.one hc
      rw [hc] at ih
      rw [if_neg (by simp)] at ih
      push_cast
      split <;> omega
end Go.Proofs.YticgjbckfpkpjaaGreat
/- Proved here, without conditions on the program: the parts and pieces of a merge are neither many nor long. -/
namespace Go.Proofs.YticgjbckfpkpjaaGreat
open Go.RowKit
set_option linter.unusedVariables false

theorem parts_smallM {base : Txs} {sides : List Txs} (h : smallM base sides) (c : Ck) : (∀ d ∈ cutB c base :: cutsP c sides, d.length ≤ 100) ∧ ∀ d ∈ cutB c base :: cutsP c sides, ∀ s ∈ d, s.length ≤ 1000 := by
  have key : ∀ d ∈ cutB c base :: cutsP c sides, ∃ l ∈ base :: sides, d.length ≤ l.length ∧ ∀ s ∈ d, s ∈ l := fun d hd => by
    rcases List.mem_cons.1 hd with rfl | hd
    · exact ⟨base, List.mem_cons_self .., cutL_le _ _ _, fun s hs => cutL_mem hs⟩
    · obtain ⟨k, hk⟩ := List.mem_iff_getElem?.1 hd
      unfold cutsP at hk
      rw [List.getElem?_zipWith] at hk
      cases h1 : c.2.2[k]? with
      | none => rw [h1] at hk; simp at hk
      | some sp =>
        cases h2 : sides[k]? with
        | none => rw [h1, h2] at hk; simp at hk
        | some l =>
          rw [h1, h2] at hk
          simp at hk
          subst hk
          exact ⟨l, List.mem_cons_of_mem _ (List.mem_of_getElem? h2), cutL_le _ _ _, fun s hs => cutL_mem hs⟩
  refine ⟨fun d hd => ?_, fun d hd s hs => ?_⟩
  · obtain ⟨l, h1, h2, _⟩ := key d hd
    exact Nat.le_trans h2 (h.2 l h1).1
  · obtain ⟨l, h1, _, h3⟩ := key d hd
    exact (h.2 l h1).2 s (h3 s hs)
theorem parts_T {base : Txs} {sides : List Txs} (h : smallM base sides) (c : Ck) : smallT (cutB c base) (cutsP c sides) := by
  obtain ⟨h1, h2⟩ := parts_smallM h c
  exact ⟨fun d hd => Nat.le_trans (h1 d hd) (by decide), fun d hd s hs => Nat.le_trans (h2 d hd s hs) (by decide)⟩
theorem cutsP_le (c : Ck) (sides : List Txs) : (cutsP c sides).length ≤ sides.length := by
  unfold cutsP
  rw [List.length_zipWith]
  omega
theorem piece_form (b : Txs) (ps : List Txs) (fav : Int) (un : Bool) : (∃ x, pieceD b ps fav un = tPc x) ∨ pieceD b ps fav un = cPc b ps := by
  unfold pieceD
  cases diffs b ps with
  | nil => exact .inl ⟨_, rfl⟩
  | cons d l =>
    cases l with
    | nil => exact .inl ⟨_, rfl⟩
    | cons e l =>
      dsimp only
      split
      · exact .inl ⟨_, rfl⟩
      · split
        · exact .inl ⟨_, rfl⟩
        · exact .inr rfl
theorem piece_lenM {base : Txs} {ps : List Txs} (fav : Int) (un : Bool) (h : ∀ d ∈ base :: ps, d.length ≤ 100) (hn : ps.length ≤ 16) : (pieceD base ps fav un).2.1.length ≤ 1700 := by
  have hd : ∀ d ∈ diffs base ps, d.length ≤ 100 := fun d hd => h d (List.mem_cons_of_mem _ (mem_diffs.1 hd).1)
  have hdl := diffs_len base ps
  unfold pieceD
  cases hds : diffs base ps with
  | nil => have := h base (List.mem_cons_self ..); simp only [tPc]; omega
  | cons d l =>
    rw [hds] at hd hdl
    cases l with
    | nil => have := hd d (List.mem_cons_self ..); simp only [tPc]; omega
    | cons e l =>
      dsimp only
      split
      · rename_i hf
        obtain ⟨k, hk⟩ : ∃ k, (fav - 1).toNat = k := ⟨_, rfl⟩
        rw [hk]
        simp only [tPc]
        cases hp : ps[k]? with
        | none => simp
        | some x => have := h x (List.mem_cons_of_mem _ (List.mem_of_getElem? hp)); simp; omega
      · split
        · simp only [tPc]
          rw [union_len]
          have key : ∀ ds : List Txs, (∀ d ∈ ds, d.length ≤ 100) → ds.flatten.length ≤ ds.length * 100 := by
            intro ds
            induction ds with
            | nil => simp
            | cons d ds ih =>
              intro h
              have := ih fun e he => h e (List.mem_cons_of_mem _ he)
              have := h d (List.mem_cons_self ..)
              rw [List.flatten_cons, List.length_append, List.length_cons]
              omega
          have := key _ hd
          omega
        · simp [cPc]

section
variable {base : Txs} {sides : List Txs} (hs : smallM base sides) (hn : sides.length ≤ 16) (fav : Int) (un : Bool)
include hs
theorem pcOf_smallN (c : Ck) : (pcOf base sides fav un c).2.2.2.length ≤ 1000 ∧ ∀ d ∈ (pcOf base sides fav un c).2.2.1 :: (pcOf base sides fav un c).2.2.2, d.length ≤ 1000000 := by
  have hl := cutsP_le c sides
  have h100 := hs.1
  obtain ⟨h1, h2⟩ := parts_smallM hs c
  unfold pcOf
  split
  · exact smallN_text _
  · rcases piece_form (cutB c base) (cutsP c sides) fav un with ⟨x, e⟩ | e
    · rw [e]; exact smallN_text _
    · rw [e]
      exact ⟨by simp only [cPc]; omega, fun d hd => Nat.le_trans (h1 d hd) (by decide)⟩
theorem merge_smallN (cs : List Ck) : smallN (cs.map (pcOf base sides fav un)) := fun p hp => by
  obtain ⟨c, _, rfl⟩ := List.mem_map.1 hp
  exact pcOf_smallN hs fav un c
include hn
theorem pcOf_lenM (c : Ck) : (pcOf base sides fav un c).2.1.length ≤ 1700 := by
  have hl := cutsP_le c sides
  obtain ⟨h1, h2⟩ := parts_smallM hs c
  unfold pcOf
  split
  · have := h1 _ (List.mem_cons_self ..); simp only [tPc]; omega
  · exact piece_lenM fav un h1 (by omega)
theorem merge_sumM {cs : List Ck} (hc : cs.length ≤ 300) : sumT (cs.map (pcOf base sides fav un)) ≤ 1000000 := by
  have := sumT_most (ps := cs.map (pcOf base sides fav un)) (m := 1700) fun p hp => by
    obtain ⟨c, _, rfl⟩ := List.mem_map.1 hp
    exact pcOf_lenM hs hn fav un c
  rw [List.length_map] at this
  omega
end
end Go.Proofs.YticgjbckfpkpjaaGreat
/- Proved here: contracts of small functions of the landed package content: isSpan, cut. -/
namespace Go.Proofs.YticgjbckfpkpjaaGreat
open Go.RowKit
set_option linter.unusedVariables false

set_option maxHeartbeats 800000 in
theorem isSpan_any (a b : Int) (n : Nat) (w : World) (hn : n ≤ maxLen) :
    Calls Tryz.prog 111 #[.agg #[.int .i64 a, .int .i64 b], .int .i64 n] w fun e w' => e = .returned (.bool (inB (a, b) n)) ∧ Below w.heap.size w w' := by
  have hb : Below w.heap.size w (w.alloc (.cells #[.int .i64 a, .int .i64 b] 45)) := (Below.refl _ _).alloc (Nat.le_refl _) _
  have hbh := Lib.hid hb
  obtain ⟨r, hr⟩ : ∃ r, inB (a, b) n = r := ⟨_, rfl⟩
  have hrh := Lib.hid hr
  rw [hr]
  clear hb hr
  unfold maxLen at hn
  by_cases h1 : 0 ≤ a
  · by_cases h2 : a ≤ b
    · by_cases h3 : b ≤ n
      · have hrt : r = true := by rw [← hrh.out]; unfold inB; simp [h1, h2, h3]
        subst hrt
        have d1 : decide (0 ≤ a) = true := by simpa using h1
        have d2 : decide (a ≤ b) = true := by simpa using h2
        have d3 : decide (b ≤ (n : Int)) = true := by simpa using h3
        go_enter Tryz.func111, Tryz.ntmps111
        go_wp2
        go_ret
        exact ⟨rfl, hbh.out⟩
      · have hrt : r = false := by rw [← hrh.out]; unfold inB; simp [h3]
        subst hrt
        have d1 : decide (0 ≤ a) = true := by simpa using h1
        have d2 : decide (a ≤ b) = true := by simpa using h2
        have d3 : decide (b ≤ (n : Int)) = false := by simpa using h3
        go_enter Tryz.func111, Tryz.ntmps111
        go_wp2
        go_ret
        exact ⟨rfl, hbh.out⟩
    · have hrt : r = false := by rw [← hrh.out]; unfold inB; simp [h2]
      subst hrt
      have d1 : decide (0 ≤ a) = true := by simpa using h1
      have d2 : decide (a ≤ b) = false := by simpa using h2
      go_enter Tryz.func111, Tryz.ntmps111
      go_wp2
      go_ret
      exact ⟨rfl, hbh.out⟩
  · have hrt : r = false := by rw [← hrh.out]; unfold inB; simp [h1]
    subst hrt
    have d1 : decide (0 ≤ a) = false := by simpa using h1
    go_enter Tryz.func111, Tryz.ntmps111
    go_wp2
    go_ret
    exact ⟨rfl, hbh.out⟩

set_option maxRecDepth 100000 in
/-- A part of texts, cut by three indices. -/
theorem slice3_txs {w : World} {B n c : Nat} {A : Option Addr} {ss : Txs} {f t : Int} (h : TxR w B (A, n, c) ss) (h0 : 0 ≤ f) (h1 : f ≤ t) (h2 : t ≤ n) :
    ∃ A' m, (∀ W : World, (Instr.slice 22 (.slice A n c) (some (.int .i64 f)) (some (.int .i64 t)) (some (.int .i64 t))).run Tryz.prog W = .ok (.slice A' m m) W) ∧ TxR w B (A', m, m) (cutL ss f t) := by
  obtain ⟨e1, e2, e3⟩ := h
  dsimp only at e1 e2 e3
  have hl := e3.len
  have hm : t.toNat - f.toNat = (t - f).toNat := by omega
  refine ⟨(if t.toNat = f.toNat then A else A.map (·.add f.toNat)), t.toNat - f.toNat, fun W => ?_, Nat.le_refl _, ?_, ?_⟩
  · rw [run_slice_lhm (P := Tryz.prog) W 22 A n c Tryz.underlying22 .i64 .i64 .i64 f t t h0 h1 (Int.le_refl _) (by omega)]
    go_simp
  · show t.toNat - f.toNat ≤ maxLen
    omega
  · show Reads _ _ _ (t.toNat - f.toNat) _
    refine ⟨by rw [List.length_map, cutL_len h0 h1 (by omega)]; omega, fun hn => ?_⟩
    obtain ⟨b, o, rfl, hb, hc⟩ := e3.2 (by omega)
    rw [if_neg (by omega)]
    refine ⟨b, o + f.toNat, ?_, hb, fun j u hu => ?_⟩
    · simp only [Option.map_some]
      unfold Addr.add
      split
      · rename_i h
        rw [h]; rfl
      · rfl
    · rw [Nat.add_assoc]
      refine hc _ u ?_
      have hj := (List.getElem?_eq_some_iff.1 hu).1
      rw [List.length_map, cutL_len h0 h1 (by omega)] at hj
      rw [← hu, List.getElem?_map, List.getElem?_map]
      unfold cutL
      rw [List.getElem?_take, if_pos hj, List.getElem?_drop]

set_option maxHeartbeats 800000 in
theorem cut_any (A : Option Addr) (n c B : Nat) (ss : Txs) (f t : Int) (w : World) (hA : TxR w B (A, n, c) ss) (h0 : 0 ≤ f) (h1 : f ≤ t) (h2 : t ≤ n) :
    Calls Tryz.prog 112 #[.slice A n c, .agg #[.int .i64 f, .int .i64 t]] w fun e w' => ∃ A' m, e = .returned (.slice A' m m) ∧ TxR w B (A', m, m) (cutL ss f t) ∧ Below w.heap.size w w' := by
  have hb : Below w.heap.size w (w.alloc (.cells #[.int .i64 f, .int .i64 t] 45)) := (Below.refl _ _).alloc (Nat.le_refl _) _
  obtain ⟨A', m, hs, hT⟩ := slice3_txs hA h0 h1 h2
  have hbh := Lib.hid hb
  have hTh := Lib.hid hT
  have h1h := Lib.hid h1
  have h2h := Lib.hid h2
  clear hb hT hA h1 h2 h0
  go_enter Tryz.func112, Tryz.ntmps112
  go_wp2
  go_ret
  exact ⟨A', m, rfl, hTh.out, hbh.out⟩

end Go.Proofs.YticgjbckfpkpjaaGreat
/- Proved here: the contract of the closure with which the landed package content asks a span, and Parts, as the laws of layer 6 ask it. -/
namespace Go.Proofs.YticgjbckfpkpjaaGreat
open Go.RowKit
set_option linter.unusedVariables false

/-- The texts in a span; none, if it is no span of them. -/
def askT (ss : Txs) (s : Sp) : Txs := if inB s ss.length then cutT ss s else []

set_option maxRecDepth 100000 in
set_option maxHeartbeats 1000000 in
theorem ask_any (L : Nat) (ok : Bool) (A : Option Addr) (n c B : Nat) (ss : Txs) (a b : Int) (w : World) (hA : TxR w B (A, n, c) ss) (hBw : B ≤ w.heap.size) (hLB : B ≤ L) (hL : Boxed w L 4 (.bool ok)) :
    Calls Tryz.prog 110 #[.slice A n c, .agg #[.int .i64 a, .int .i64 b], .pointer (some ⟨L, 0, none⟩)] w fun e w' => ∃ A' m, e = .returned (.slice A' m m) ∧ TxR w B (A', m, m) (askT ss (a, b)) ∧ Boxed w' L 4 (.bool (ok && inB (a, b) n)) ∧ But (fun k => k = L) w w' := by
  have hn : n ≤ maxLen := Nat.le_trans hA.1 hA.2.1
  have hl : ss.length = n := hA.2.2.len
  have hb1 : Below w.heap.size w (w.alloc (.cells #[.int .i64 a, .int .i64 b] 45)) := (Below.refl _ _).alloc (Nat.le_refl _) _
  have hS := isSpan_any a b n (w.alloc (.cells #[.int .i64 a, .int .i64 b] 45)) hn
  have hbox : Boxed (w.alloc (.cells #[.int .i64 a, .int .i64 b] 45)) L 4 (.bool ok) := (hb1.block _ hL.lt).trans hL
  have hLlt := hL.lt
  have hs0 : (w.alloc (.cells #[.int .i64 a, .int .i64 b] 45)).heap[w.heap.size]? = some (.cells #[.int .i64 a, .int .i64 b] 45 (0, 0)) := Go.Deep.blk_alloc_new w _
  have hz0 : w.heap.size < (w.alloc (.cells #[.int .i64 a, .int .i64 b] 45)).heap.size := by simp
  obtain ⟨r, hr⟩ : ∃ r, inB (a, b) n = r := ⟨_, rfl⟩
  have hrh := Lib.hid hr
  have hlh := Lib.hid hl
  rw [hr] at hS ⊢
  have hbh := Lib.hid hb1
  have hSh := Lib.hid hS
  have hboxh := Lib.hid hbox
  have hs0h := Lib.hid hs0
  have hz0h := Lib.hid hz0
  have hAh := Lib.hid hA
  clear hA hL hS hb1 hr hbox hs0 hl hz0
  cases r
  · have heq : askT ss (a, b) = [] := by unfold askT; rw [hlh.out, hrh.out]; rfl
    have heqh := Lib.hid heq
    have hand : (ok && false) = false := by simp
    have handh := Lib.hid hand
    clear heq hand
    go_enter Tryz.func110, Tryz.ntmps110
    go_wp2_with (go_at_call 111; refine hSh.out.mono ?_; rintro e w1 ⟨rfl, hb2⟩; have hbx1 : Boxed w1 L 4 (.bool ok) := ((hb2.block _ hboxh.out.lt).trans hboxh.out); have d1 := hbx1.cell; have d2 := hbx1.frozen; have hb2h := Lib.hid hb2; have hbx := Lib.hid hbx1; clear hb2 hbx1)
    go_ret
    refine ⟨.none, 0, rfl, ?_, ?_, ?_⟩
    · rw [heqh.out]; exact TxR.nil _ _
    · rw [handh.out]
      show (w1.setCell ⟨L, 0, none⟩ (.bool false)).heap[L]? = _
      simp [World.setCell, Array.getElem?_modify, show w1.heap[L]? = _ from hbx.out]
    · exact (But.of_below (F := fun k => k = L) (hbh.out.trans (hb2h.out.mono (Nat.le_of_lt hz0h.out))) fun k hk _ => hk).trans (But.setCell (F := fun k => k = L) w1 (p := ⟨L, 0, none⟩) rfl _) fun k e => .inl e
  · have hin := inB_parts hrh.out
    obtain ⟨i1, i2, i3⟩ := hin
    dsimp only at i1 i2 i3
    have heq : askT ss (a, b) = cutL ss a b := by unfold askT; rw [hlh.out, hrh.out]; rfl
    have heqh := Lib.hid heq
    have hand : (ok && true) = ok := by simp
    have handh := Lib.hid hand
    have hC : Hid (∀ W : World, Below w.heap.size w W → Calls Tryz.prog 112 #[.slice A n c, .agg #[.int .i64 a, .int .i64 b]] W fun e w' => ∃ A' m, e = .returned (.slice A' m m) ∧ TxR W B (A', m, m) (cutL ss a b) ∧ Below W.heap.size W w') :=
      Lib.hid fun W hW => cut_any A n c B ss a b W (hAh.out.below (hW.mono hBw)) i1 i2 i3
    clear heq hand i1 i2 i3
    go_enter Tryz.func110, Tryz.ntmps110
    go_wp2_with (first
      | (go_at_call 111; refine hSh.out.mono ?_; rintro e w1 ⟨rfl, hb2⟩; have hb3 := Lib.hid (hbh.out.trans (hb2.mono (Nat.le_of_lt hz0h.out))); have e1 : w1.heap[w.heap.size]? = _ := ((hb2.block _ hz0h.out).trans hs0h.out); have e2 : w1.cell? ⟨w.heap.size, 0, none⟩ = some (.int .i64 a) := (by rw [cells_of e1]; rfl); have e3 : w1.cell? ⟨w.heap.size, 1, none⟩ = some (.int .i64 b) := (by rw [cells_of e1]; rfl); have hbx := Lib.hid (show Boxed w1 L 4 (.bool ok) from (hb2.block _ hboxh.out.lt).trans hboxh.out); clear hb2 e1)
      | (go_at_call 112; refine (hC.out _ hb3.out).mono ?_; rintro e w2 ⟨A2, m2, rfl, hT2, hb4⟩; have hT3 := Lib.hid hT2; have hb5 := Lib.hid hb4; clear hT2 hb4))
    go_ret
    refine ⟨A2, m2, rfl, ?_, ?_, ?_⟩
    · rw [heqh.out]
      exact hT3.out.keep fun p hp => (hb3.out.cell (p := p) (by omega)).symm
    · rw [handh.out]
      exact (hb5.out.block _ hbx.out.lt).trans hbx.out
    · exact But.of_below (F := fun k => k = L) (hb3.out.trans (hb5.out.mono hb3.out.size)) fun k hk _ => hk
end Go.Proofs.YticgjbckfpkpjaaGreat
/- Proved here, without conditions: a new slice of slices of texts, and its cells as they are set one by one. -/
namespace Go.Proofs.YticgjbckfpkpjaaGreat
open Go.RowKit
set_option linter.unusedVariables false

theorem make_rows (n : Nat) (hn : n ≤ 1000000) (w : World) : (Instr.makeSlice 23 (.int .i64 (n : Int)) (.int .i64 (n : Int))).run Tryz.prog w = .ok (.slice (some ⟨w.heap.size, 0, none⟩) n n) (w.alloc (.cells (madeCells #[.slice none 0 0] n) 22)) := by
  obtain ⟨i, hi, hzz⟩ := Option.map_eq_some_iff.1 infoTxs
  simp only [Prod.mk.injEq] at hzz
  obtain ⟨hz, hs, hb⟩ := hzz
  have := run_make (P := Tryz.prog) w 23 22 i (.slice none 0 0) Tryz.underlying23 hi hz .i64 .i64 n n (by omega) (Int.le_refl _) (by rw [hb]; omega) (by omega)
  simp only [Int.toNat_natCast, hs, Nat.mul_one] at this
  exact this

/-- The cells of parts, as far as they are asked. -/
def rowF (rs : List Slc) (i : Nat) : Value := slcV (rs.getD i (none, 0, 0))
theorem rowF_set {w : World} {G n k : Nat} {rs : List Slc} {r : Slc} (h : w.rowIs G 22 n (rowF rs)) (hk : rs.length = k) : (w.setCell ⟨G, k, none⟩ (slcV r)).rowIs G 22 n (rowF (rs ++ [r])) := by
  refine (h.set k _).congr fun i hi => ?_
  unfold rowF
  subst hk
  by_cases e : i = rs.length
  · subst e
    simp
  · rw [if_neg e]
    congr 1
    rw [List.getD_eq_getElem?_getD, List.getD_eq_getElem?_getD]
    rcases Nat.lt_or_ge i rs.length with h1 | h1
    · rw [List.getElem?_append_left h1]
    · rw [List.getElem?_eq_none h1, List.getElem?_eq_none (by simp; omega)]

end Go.Proofs.YticgjbckfpkpjaaGreat
