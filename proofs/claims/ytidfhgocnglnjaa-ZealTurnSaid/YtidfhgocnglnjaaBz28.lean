/- Proved here: texts joined: ZlSmall, PkFns. -/
import Derived.Test.YtidfhgocnglnjaaBz11
import Derived.Test.YtidfhgocnglnjaaBz19
import Derived.RangeFuncBox
import Derived.Deep.DeepCutAuto
import Derived.Outline
/- Proved here, without conditions: of few pieces what Zeal tells is neither many nor long. -/
namespace Go.Proofs.Ytidfhgocnglnjaa
open Go.RowKit
set_option linter.unusedVariables false

theorem text_joinT (t : Txs) : ∀ {r : List Pc} {q : Pc}, (∀ p ∈ r, p.1 = false → p = tPc p.2.1) → q ∈ joinT t r → q.1 = false → q = tPc q.2.1
  | [], q, _, h, _ => by
    have h : q ∈ (if t = [] then [] else [tPc t] : List Pc) := h
    by_cases e : t = []
    · rw [if_pos e] at h; cases h
    · rw [if_neg e, List.mem_singleton] at h
      subst h
      rfl
  | (false, x, b, s) :: r, q, hr, h, hc => by
    rcases List.mem_cons.1 h with rfl | h
    · have := hr (false, x, b, s) (List.mem_cons_self ..) rfl
      simp [tPc] at this
      obtain ⟨rfl, rfl⟩ := this
      rfl
    · exact hr q (List.mem_cons_of_mem _ h) hc
  | (true, x, b, s) :: r, q, hr, h, hc => by
    have h : q ∈ (if t = [] then (true, x, b, s) :: r else tPc t :: (true, x, b, s) :: r) := h
    by_cases e : t = []
    · rw [if_pos e] at h; exact hr q h hc
    · rw [if_neg e] at h
      rcases List.mem_cons.1 h with rfl | h
      · rfl
      · exact hr q h hc
theorem text_normal : ∀ {l : List Pc} {q : Pc}, q ∈ normal l → q.1 = false → q = tPc q.2.1
  | (true, t, b, s) :: l, q, h, hc => by
    rcases List.mem_cons.1 h with rfl | h
    · cases hc
    · exact text_normal h hc
  | (false, t, b, s) :: l, q, h, hc => text_joinT t (fun p hp hc => text_normal hp hc) h hc
/-- A conflict that Trim leaves: its base, and its sides, are no longer. -/
theorem conf_small {p q : Pc} (h : smallP p) (hq : q ∈ trimD p) (hc : q.1 = true) : q.2.2.2.length ≤ 1000 ∧ (∀ d ∈ q.2.2.2, d.length ≤ 5000) ∧ q.2.2.1.length ≤ 10000 := by
  obtain ⟨cf, t, bs, ss⟩ := p
  obtain ⟨h1, h2, h3, h4⟩ := h
  dsimp only at h1 h2 h3 h4
  have one : q ∈ normal [(cf, t, bs, ss)] → q.2.2.2.length ≤ 1000 ∧ (∀ d ∈ q.2.2.2, d.length ≤ 5000) ∧ q.2.2.1.length ≤ 10000 := fun hq => by
    obtain ⟨t', ht⟩ := conf_normal hc hq
    simp at ht
    obtain ⟨rfl, -, e1, e2⟩ := ht
    rw [e1, e2]
    exact ⟨h2, h3, h4⟩
  cases cf with
  | false => exact one hq
  | true =>
    cases ss with
    | nil => exact one hq
    | cons f ds =>
      obtain ⟨t', ht⟩ := conf_normal hc (show q ∈ normal (trimL bs f (f :: ds)) from hq)
      obtain ⟨-, e⟩ := trimL_conf (List.mem_cons_self ..) ht rfl
      simp only [cPc, Prod.mk.injEq] at e
      obtain ⟨-, -, e1, e2⟩ := e
      rw [e1, e2]
      refine ⟨by rw [List.length_map]; exact h2, fun d hd => ?_, h4⟩
      obtain ⟨d', hd', rfl⟩ := List.mem_map.1 hd
      have := h3 d' hd'
      unfold leftD
      rw [List.length_take, List.length_drop]
      omega
theorem small_zeal {ps : List Pc} (h : smallZ ps) (hn : ps.length ≤ 30) (hs : ps.length * 10000 ≤ 5000 ∨ sumT (ps.flatMap trimD) ≤ 5000) : smallZ (zealD ps) := by
  have hsum : sumT (ps.flatMap trimD) ≤ 5000 := by
    rcases hs with hs | hs
    · exact Nat.le_trans (flat_sum h.2).1 hs
    · exact hs
  refine ⟨?_, fun q hq => ?_⟩
  · have h1 := (flat_sum (ps := ps) h.2).2
    have h2 := len_normal (ps.flatMap trimD)
    unfold zealD
    omega
  · unfold zealD at hq
    have hm := sumT_mem hq
    have hn2 := sumT_normal (ps.flatMap trimD)
    cases hc : q.1 with
    | false =>
      have e := text_normal hq hc
      refine ⟨by omega, ?_⟩
      rw [e]
      exact ⟨by simp [tPc], fun d hd => by simp [tPc] at hd, by simp [tPc]⟩
    | true =>
      obtain ⟨t, ht⟩ := conf_normal hc hq
      obtain ⟨p, hp, hm2⟩ := List.mem_flatMap.1 ht
      exact ⟨by omega, conf_small (q := (true, t, q.2.2.1, q.2.2.2)) (h.2 p hp) hm2 rfl⟩
/-- Few pieces made smaller hold few texts. -/
theorem few_sum : ∀ {ps : List Pc}, (∀ p ∈ ps, fewP1 p = true) → sumT (ps.flatMap trimD) ≤ ps.length * 40
  | [], _ => by simp [sumT]
  | p :: ps, h => by
    have h1 := few_sum (ps := ps) fun q hq => h q (List.mem_cons_of_mem _ hq)
    have h2 := h p (List.mem_cons_self ..)
    have e : sumT (trimD p ++ ps.flatMap trimD) = sumT (trimD p) + sumT (ps.flatMap trimD) := by simp [sumT]
    rw [List.flatMap_cons, List.length_cons, e]
    have h3 : sumT (trimD p) ≤ 40 := by
      obtain ⟨cf, t, bs, ss⟩ := p
      have ht := fewP1_text h2
      have hsd := fewP1_side h2
      dsimp only at ht hsd
      have one : sumT (normal [(cf, t, bs, ss)]) ≤ 40 := by
        have := sumT_normal [(cf, t, bs, ss)]
        have e2 : sumT [(cf, t, bs, ss)] = t.length := by simp [sumT]
        omega
      cases cf with
      | false => exact one
      | true =>
        cases ss with
        | nil => exact one
        | cons f ds =>
          show sumT (normal (trimL bs f (f :: ds))) ≤ 40
          have a1 := sumT_normal (trimL bs f (f :: ds))
          have a2 := (trimL_sum (base := bs) (f := f) (ds := f :: ds)).1
          have a3 := hsd f (List.mem_cons_self ..)
          omega
    omega
theorem few_zeal {ps : List Pc} (h : fewP ps = true) : smallZ (zealD ps) ∧ sumT (zealD ps) ≤ 480 := by
  obtain ⟨h1, h2⟩ := fewP_parts h
  have h3 := few_sum h2
  have h4 := sumT_normal (ps.flatMap trimD)
  refine ⟨small_zeal (few_small h) (by omega) (.inr (by omega)), ?_⟩
  unfold zealD
  omega
theorem smallN_of {ps : List Pc} (h : ∀ p ∈ ps, smallP p) : smallN ps := fun p hp => by
  obtain ⟨-, h1, h2, h3⟩ := h p hp
  refine ⟨h1, fun d hd => ?_⟩
  rcases List.mem_cons.1 hd with rfl | hd
  · omega
  · have := h2 d hd; omega
theorem few_part {ps qs : List Pc} (h : fewP ps = true) (hl : qs.length ≤ ps.length) (hm : ∀ p ∈ qs, p ∈ ps) : fewP qs = true := by
  obtain ⟨h1, h2⟩ := fewP_parts h
  unfold fewP
  rw [Bool.and_eq_true, decide_eq_true_eq, List.all_eq_true]
  exact ⟨by omega, fun p hp => h2 p (hm p (List.mem_of_mem_take hp))⟩
theorem own_empty4 (w : World) (base : Nat) (e : TypeId) (h : base ≤ w.heap.size) : (w.alloc (.cells #[] e)).ownsRow base e 4 (.slice (some ⟨w.heap.size, 0, none⟩) 0 0) 0 [] :=
  ⟨rfl, .inr ⟨w.heap.size, 0, #[], rfl, h, heap_alloc_new w _, Nat.le_refl _, Nat.zero_le _, rfl, rfl⟩⟩
end Go.Proofs.Ytidfhgocnglnjaa
/- Proved here: contracts of what the landed package pick calls of slices, and of its small functions: Clone, text, sideOf. -/
namespace Go.Proofs.Ytidfhgocnglnjaa
open Go.RowKit
set_option linter.unusedVariables false

theorem ownsRow_low {w : World} {base base' : Nat} {e : TypeId} {size : Nat} {v : Value} {n : Nat} {xs : List Value} (h : w.ownsRow base e size v n xs) (hb : base' ≤ base) : w.ownsRow base' e size v n xs := by
  refine ⟨h.1, ?_⟩
  rcases h.2 with h | ⟨g, cap, cur, hv, h1, r⟩
  · exact .inl h
  · exact .inr ⟨g, cap, cur, hv, Nat.le_trans hb h1, r⟩

/-- Texts of the call's own, told. -/
def OwnOut (w w' : World) (e : Ending) (xs : Txs) : Prop := ∃ v, e = .returned v ∧ TxO w w' v xs

set_option maxHeartbeats 800000 in
theorem cloneT_any (A : Option Addr) (n c B : Nat) (ss : Txs) (w : World) (hn : n ≤ 1000000000) (hB : B ≤ w.heap.size) (hA : Strs w B A n ss) :
    Calls Try.prog 45 #[.slice A n c] w fun e w' => OwnOut w w' e ss := by
  have hl := hA.len
  obtain ⟨i0, hi, hzz⟩ := Option.map_eq_some_iff.1 infoStr
  simp only [Prod.mk.injEq] at hzz
  obtain ⟨hz0, hz1, hz2⟩ := hzz
  have hw0 : (w.alloc (.cells #[] 9)).ownsRow w.heap.size 9 1 (.slice (some ⟨w.heap.size, 0, none⟩) 0 0) 0 [] := own_empty w w.heap.size _ (Nat.le_refl _)
  have hB0 : Below w.heap.size w (w.alloc (.cells #[] 9)) := (Below.refl _ _).alloc (Nat.le_refl _) _
  have hm : Hid (0 + n ≤ maxLen ∧ (0 + n) * 16 ≤ 140737488355328) := Lib.hid ⟨by unfold maxLen; omega, by omega⟩
  cases A with
  | none =>
    have h0 : n = 0 := by
      rcases Nat.eq_zero_or_pos n with h0 | h0
      · exact h0
      · obtain ⟨_, _, h, _⟩ := hA.2 h0
        cases h
    subst h0
    obtain rfl : ss = [] := List.eq_nil_of_length_eq_zero hl
    have hq : ∀ W : World, (binOp .eql 22 (.slice none 0 c) (.slice none 0 0)).run Try.prog W = .ok (.bool true) W := fun W => Lib.run_eql_slice_nil W _ _ _ _ _ _ _ Try.underlying22
    go_enter Try.func45, Try.ntmps45
    go_wp2
    go_ret
    exact ⟨_, rfl, World.ownsRow_nil _ _ _ _, Below.refl _ _⟩
  | some p =>
    have hA0 := Lib.hid ((hA.more hB).below hB0)
    have hlh := Lib.hid hl
    clear hA hl
    have hq : ∀ W : World, (binOp .eql 22 (.slice (some p) n c) (.slice none 0 0)).run Try.prog W = .ok (.bool false) W := fun W => Lib.run_eql_slice_nil W _ _ _ _ _ _ _ Try.underlying22
    go_enter Try.func45, Try.ntmps45
    go_wp2_with (at_builtin; refine wpList_append_reads _ rfl _ _ 22 rfl w.heap.size 9 i0 (.string ByteArray.empty) 16 Try.underlying22 hi hz0 hz1 hz2 rfl _ 0 [] rfl hw0 w.heap.size (some p) n c _ rfl hA0.out (strs_one _) hm.out.1 hm.out.2 hB0.size ?_; intro v1 w1 hown1 hg1; have hB1 : Below w.heap.size w w1 := hB0.grown hg1 hB0.size (fun j e => (hw0.lt j e).1); rw [Nat.zero_add, List.nil_append] at hown1)
    go_ret
    exact ⟨_, rfl, by rw [hlh.out]; exact hown1, hB1⟩

/-- What a cell of a piece leaves. -/
theorem but_piece (w : World) (L : Nat) (hL : w.heap.size ≤ L) {w1 : World} (hb : Below w.heap.size w w1) (u0 u1 u2 u3 : Value) : Below w.heap.size w ((((w1.setCell ⟨L, 0, none⟩ u0).setCell ⟨L, 1, none⟩ u1).setCell ⟨L, 2, none⟩ u2).setCell ⟨L, 3, none⟩ u3) :=
  hb.trans ((But.piece w1 L u0 u1 u2 u3).below hb.size (by rintro k rfl; exact hL))

/-- A text, as the landed text makes it: a copy of the call's own. -/
def TextOut (w w' : World) (e : Ending) (xs : Txs) : Prop := ∃ A c, e = .returned (.agg #[.bool false, .slice A xs.length c, .slice none 0 0, .slice none 0 0]) ∧ TxO w w' (.slice A xs.length c) xs
theorem TextOut.piece {w w' : World} {e : Ending} {xs : Txs} (h : TextOut w w' e xs) : PieceOut w w' e (tPc xs) := by
  obtain ⟨A, c, rfl, hT⟩ := h
  obtain ⟨A', c', e1, h1, h2, h3⟩ := own_slice hT.own
  injection e1 with e2 e3 e4
  subst e2
  subst e4
  exact ⟨((A, xs.length, c), (none, 0, 0), (none, 0, 0)), rfl, PcR.text ⟨h1, h2, h3⟩, hT.below⟩

set_option maxHeartbeats 1000000 in
theorem text_any (A : Option Addr) (n c B : Nat) (ss : Txs) (w : World) (hn : n ≤ 1000000000) (hB : B ≤ w.heap.size) (hA : Strs w B A n ss) :
    Calls Try.prog 34 #[.slice A n c] w fun e w' => TextOut w w' e ss := by
  obtain ⟨W0, hW0⟩ : ∃ W0, W0 = w.alloc (.cells #[.bool false, .slice none 0 0, .slice none 0 0, .slice none 0 0] 25) := ⟨_, rfl⟩
  have hb0 : Below w.heap.size w W0 := by rw [hW0]; exact (Below.refl _ w).alloc (Nat.le_refl _) _
  have k0 : W0.heap[w.heap.size]? = some (.cells #[.bool false, .slice none 0 0, .slice none 0 0, .slice none 0 0] 25 (0, 0)) := by rw [hW0]; exact Go.Deep.blk_alloc_new w _
  have hs0 : W0.heap.size = w.heap.size + 1 := by rw [hW0]; simp
  have hC := Lib.hid (cloneT_any A n c B ss W0 hn (by omega) (hA.below (hb0.mono hB)))
  have hb0h := Lib.hid hb0
  have k0h := Lib.hid k0
  have hs0h := Lib.hid hs0
  have hW0h := Lib.hid hW0
  clear hA hb0 k0 hs0 hW0
  go_enter Try.func34, Try.ntmps34
  go_upto_region 1 with fail
  rw [← hW0h.out]
  go_wp2_with (go_at_call 45; refine hC.out.mono ?_; rintro e w1 ⟨v, rfl, hT⟩; obtain ⟨A1, c1, rfl, h1, h2, h3⟩ := own_slice hT.own; have k1 : w1.heap[w.heap.size]? = _ := ((hT.below.block _ (by have := hs0h.out; omega)).trans k0h.out); obtain ⟨e0, e1, e2, e3, z0, z1, z2, z3⟩ := piece_at k1; have hTh := Lib.hid hT; clear hT h1 h2 h3 k1)
  refine bodyPost_ret (v := .agg #[.bool false, .slice A1 ss.length c1, .slice none 0 0, .slice none 0 0]) (by simp [results, Try.results34, go_sem, World.cell?_setCell_same', e0, e1, e2, e3]) rfl ?_
  refine ⟨A1, c1, rfl, ?_, but_piece w w.heap.size (Nat.le_refl _) (hb0h.out.trans (hTh.out.below.mono hb0h.out.size)) _ _ _ _⟩
  have h1 := hTh.out.own
  refine ownsRow_kept (ownsRow_low h1 hb0h.out.size) fun k e => ?_
  have h2 := (h1.lt k e)
  have h3 := hs0h.out
  exact (But.piece w1 w.heap.size _ _ _ _).block k h2.2 (by omega)

set_option maxHeartbeats 1000000 in
/-- The side of a number. -/
theorem sideOf_yes (A : Option Addr) (n c k : Nat) (rows : List Slc) (sides : List Txs) (B : Nat) (w : World) (hn : n ≤ maxLen) (hk : k < n) (hA : RowsT w B A n rows sides) :
    Calls Try.prog 30 #[.slice A n c, .int .i64 ((k : Int) + 1)] w fun e w' => (∃ A1 n1 c1 ss, e = .returned (.tuple #[.slice A1 n1 c1, .bool true]) ∧ sides[k]? = some ss ∧ TxR w B (A1, n1, c1) ss) ∧ w' = w := by
  obtain ⟨b, o, A1, n1, c1, ss, rfl, hb, hss, -, hc, hnc, hcm, hS⟩ := hA.at_ hk
  unfold maxLen at hn
  have f1 : decide ((k : Int) + 1 < 1) = false := decide_eq_false (by omega)
  have f2 : decide ((n : Int) < (k : Int) + 1) = false := decide_eq_false (by omega)
  have i1 : (0 : Int) ≤ (k : Int) := by omega
  have i2 : (k : Int) < (n : Int) := by omega
  have hfin := Lib.hid (And.intro hss (show TxR w B (A1, n1, c1) ss from ⟨hnc, hcm, hS⟩))
  clear hA hss hnc hcm hS
  go_enter Try.func30, Try.ntmps30
  go_wp2
  go_ret2
  exact ⟨⟨A1, n1, c1, ss, rfl, hfin.out.1, hfin.out.2⟩, rfl⟩
set_option maxHeartbeats 1000000 in
theorem sideOf_no (A : Option Addr) (n c : Nat) (z : Int) (w : World) (hn : n ≤ maxLen) (hz : ¬ (1 ≤ z ∧ z ≤ n)) :
    Calls Try.prog 30 #[.slice A n c, .int .i64 z] w fun e w' => e = .returned (.tuple #[.slice none 0 0, .bool false]) ∧ w' = w := by
  unfold maxLen at hn
  by_cases h1 : z < 1
  · have f1 : decide (z < 1) = true := decide_eq_true h1
    clear hz
    go_enter Try.func30, Try.ntmps30
    go_wp2
    go_ret2
    exact ⟨rfl, rfl⟩
  · have h2 : (n : Int) < z := by omega
    have f1 : decide (z < 1) = false := decide_eq_false h1
    have f2 : decide ((n : Int) < z) = true := decide_eq_true h2
    clear hz
    go_enter Try.func30, Try.ntmps30
    go_wp2
    go_ret2
    exact ⟨rfl, rfl⟩
end Go.Proofs.Ytidfhgocnglnjaa
