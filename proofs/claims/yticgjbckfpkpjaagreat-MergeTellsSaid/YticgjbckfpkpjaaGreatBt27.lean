/- Proved here: texts joined: PkFns, UnPure, LinOpen, PkUn, PkUn2. -/
import Derived.Test.YticgjbckfpkpjaaGreatBt03
import Derived.Test.YticgjbckfpkpjaaGreatBt04
import Derived.Test.YticgjbckfpkpjaaGreatBt16
import Derived.RangeFuncBox
import Derived.Deep.DeepCutAuto
import Derived.Outline
import Derived.Laws.EntriesVeiled
/- Proved here: contracts of what the landed package pick calls of slices, and of its small functions: Clone, text, sideOf. -/
namespace Go.Proofs.YticgjbckfpkpjaaGreat
open Go.RowKit
set_option linter.unusedVariables false

theorem ownsRow_low {w : World} {base base' : Nat} {e : TypeId} {size : Nat} {v : Value} {n : Nat} {xs : List Value} (h : w.ownsRow base e size v n xs) (hb : base' ≤ base) : w.ownsRow base' e size v n xs := by
  refine ⟨h.1, ?_⟩
  rcases h.2 with h | ⟨g, cap, cur, hv, h1, r⟩
  · exact .inl h
  · exact .inr ⟨g, cap, cur, hv, Nat.le_trans hb h1, r⟩

/-- Texts of the call's own, told. -/
def OwnOut (w w' : World) (e : Ending) (xs : Txs) : Prop := ∃ v, e = .returned v ∧ TxO w w' v xs

set_option maxHeartbeats 800000 in
theorem cloneT_any (A : Option Addr) (n c B : Nat) (ss : Txs) (w : World) (hn : n ≤ 1000000000) (hB : B ≤ w.heap.size) (hA : Strs w B A n ss) :
    Calls Tryz.prog 101 #[.slice A n c] w fun e w' => OwnOut w w' e ss := by
  have hl := hA.len
  obtain ⟨i0, hi, hzz⟩ := Option.map_eq_some_iff.1 infoStr
  simp only [Prod.mk.injEq] at hzz
  obtain ⟨hz0, hz1, hz2⟩ := hzz
  have hw0 : (w.alloc (.cells #[] 9)).ownsRow w.heap.size 9 1 (.slice (some ⟨w.heap.size, 0, none⟩) 0 0) 0 [] := own_empty w w.heap.size _ (Nat.le_refl _)
  have hB0 : Below w.heap.size w (w.alloc (.cells #[] 9)) := (Below.refl _ _).alloc (Nat.le_refl _) _
  have hm : Hid (0 + n ≤ maxLen ∧ (0 + n) * 16 ≤ 140737488355328) := Lib.hid ⟨by unfold maxLen; omega, by omega⟩
  cases A with
  | none =>
    have h0 : n = 0 := by
      rcases Nat.eq_zero_or_pos n with h0 | h0
      · exact h0
      · obtain ⟨_, _, h, _⟩ := hA.2 h0
        cases h
    subst h0
    obtain rfl : ss = [] := List.eq_nil_of_length_eq_zero hl
    have hq : ∀ W : World, (binOp .eql 22 (.slice none 0 c) (.slice none 0 0)).run Tryz.prog W = .ok (.bool true) W := fun W => Lib.run_eql_slice_nil W _ _ _ _ _ _ _ Tryz.underlying22
    go_enter Tryz.func101, Tryz.ntmps101
    go_wp2
    go_ret
    exact ⟨_, rfl, World.ownsRow_nil _ _ _ _, Below.refl _ _⟩
  | some p =>
    have hA0 := Lib.hid ((hA.more hB).below hB0)
    have hlh := Lib.hid hl
    clear hA hl
    have hq : ∀ W : World, (binOp .eql 22 (.slice (some p) n c) (.slice none 0 0)).run Tryz.prog W = .ok (.bool false) W := fun W => Lib.run_eql_slice_nil W _ _ _ _ _ _ _ Tryz.underlying22
    go_enter Tryz.func101, Tryz.ntmps101
    go_wp2_with (at_builtin; refine wpList_append_reads _ rfl _ _ 22 rfl w.heap.size 9 i0 (.string ByteArray.empty) 16 Tryz.underlying22 hi hz0 hz1 hz2 rfl _ 0 [] rfl hw0 w.heap.size (some p) n c _ rfl hA0.out (strs_one _) hm.out.1 hm.out.2 hB0.size ?_; intro v1 w1 hown1 hg1; have hB1 : Below w.heap.size w w1 := hB0.grown hg1 hB0.size (fun j e => (hw0.lt j e).1); rw [Nat.zero_add, List.nil_append] at hown1)
    go_ret
    exact ⟨_, rfl, by rw [hlh.out]; exact hown1, hB1⟩

/-- What a cell of a piece leaves. -/
theorem but_piece (w : World) (L : Nat) (hL : w.heap.size ≤ L) {w1 : World} (hb : Below w.heap.size w w1) (u0 u1 u2 u3 : Value) : Below w.heap.size w ((((w1.setCell ⟨L, 0, none⟩ u0).setCell ⟨L, 1, none⟩ u1).setCell ⟨L, 2, none⟩ u2).setCell ⟨L, 3, none⟩ u3) :=
  hb.trans ((But.piece w1 L u0 u1 u2 u3).below hb.size (by rintro k rfl; exact hL))

/-- A text, as the landed text makes it: a copy of the call's own. -/
def TextOut (w w' : World) (e : Ending) (xs : Txs) : Prop := ∃ A c, e = .returned (.agg #[.bool false, .slice A xs.length c, .slice none 0 0, .slice none 0 0]) ∧ TxO w w' (.slice A xs.length c) xs
theorem TextOut.piece {w w' : World} {e : Ending} {xs : Txs} (h : TextOut w w' e xs) : PieceOut w w' e (tPc xs) := by
  obtain ⟨A, c, rfl, hT⟩ := h
  obtain ⟨A', c', e1, h1, h2, h3⟩ := own_slice hT.own
  injection e1 with e2 e3 e4
  subst e2
  subst e4
  exact ⟨((A, xs.length, c), (none, 0, 0), (none, 0, 0)), rfl, PcR.text ⟨h1, h2, h3⟩, hT.below⟩

set_option maxHeartbeats 1000000 in
theorem text_any (A : Option Addr) (n c B : Nat) (ss : Txs) (w : World) (hn : n ≤ 1000000000) (hB : B ≤ w.heap.size) (hA : Strs w B A n ss) :
    Calls Tryz.prog 83 #[.slice A n c] w fun e w' => TextOut w w' e ss := by
  obtain ⟨W0, hW0⟩ : ∃ W0, W0 = w.alloc (.cells #[.bool false, .slice none 0 0, .slice none 0 0, .slice none 0 0] 60) := ⟨_, rfl⟩
  have hb0 : Below w.heap.size w W0 := by rw [hW0]; exact (Below.refl _ w).alloc (Nat.le_refl _) _
  have k0 : W0.heap[w.heap.size]? = some (.cells #[.bool false, .slice none 0 0, .slice none 0 0, .slice none 0 0] 60 (0, 0)) := by rw [hW0]; exact Go.Deep.blk_alloc_new w _
  have hs0 : W0.heap.size = w.heap.size + 1 := by rw [hW0]; simp
  have hC := Lib.hid (cloneT_any A n c B ss W0 hn (by omega) (hA.below (hb0.mono hB)))
  have hb0h := Lib.hid hb0
  have k0h := Lib.hid k0
  have hs0h := Lib.hid hs0
  have hW0h := Lib.hid hW0
  clear hA hb0 k0 hs0 hW0
  go_enter Tryz.func83, Tryz.ntmps83
  go_upto_region 1 with fail
  rw [← hW0h.out]
  go_wp2_with (go_at_call 101; refine hC.out.mono ?_; rintro e w1 ⟨v, rfl, hT⟩; obtain ⟨A1, c1, rfl, h1, h2, h3⟩ := own_slice hT.own; have k1 : w1.heap[w.heap.size]? = _ := ((hT.below.block _ (by have := hs0h.out; omega)).trans k0h.out); obtain ⟨e0, e1, e2, e3, z0, z1, z2, z3⟩ := piece_at k1; have hTh := Lib.hid hT; clear hT h1 h2 h3 k1)
  refine bodyPost_ret (v := .agg #[.bool false, .slice A1 ss.length c1, .slice none 0 0, .slice none 0 0]) (by simp [results, Tryz.results83, go_sem, World.cell?_setCell_same', e0, e1, e2, e3]) rfl ?_
  refine ⟨A1, c1, rfl, ?_, but_piece w w.heap.size (Nat.le_refl _) (hb0h.out.trans (hTh.out.below.mono hb0h.out.size)) _ _ _ _⟩
  have h1 := hTh.out.own
  refine ownsRow_kept (ownsRow_low h1 hb0h.out.size) fun k e => ?_
  have h2 := (h1.lt k e)
  have h3 := hs0h.out
  exact (But.piece w1 w.heap.size _ _ _ _).block k h2.2 (by omega)

set_option maxHeartbeats 1000000 in
/-- The side of a number. -/
theorem sideOf_yes (A : Option Addr) (n c k : Nat) (rows : List Slc) (sides : List Txs) (B : Nat) (w : World) (hn : n ≤ maxLen) (hk : k < n) (hA : RowsT w B A n rows sides) :
    Calls Tryz.prog 47 #[.slice A n c, .int .i64 ((k : Int) + 1)] w fun e w' => (∃ A1 n1 c1 ss, e = .returned (.tuple #[.slice A1 n1 c1, .bool true]) ∧ sides[k]? = some ss ∧ TxR w B (A1, n1, c1) ss) ∧ w' = w := by
  obtain ⟨b, o, A1, n1, c1, ss, rfl, hb, hss, -, hc, hnc, hcm, hS⟩ := hA.at_ hk
  unfold maxLen at hn
  have f1 : decide ((k : Int) + 1 < 1) = false := decide_eq_false (by omega)
  have f2 : decide ((n : Int) < (k : Int) + 1) = false := decide_eq_false (by omega)
  have i1 : (0 : Int) ≤ (k : Int) := by omega
  have i2 : (k : Int) < (n : Int) := by omega
  have hfin := Lib.hid (And.intro hss (show TxR w B (A1, n1, c1) ss from ⟨hnc, hcm, hS⟩))
  clear hA hss hnc hcm hS
  go_enter Tryz.func47, Tryz.ntmps47
  go_wp2
  go_ret2
  exact ⟨⟨A1, n1, c1, ss, rfl, hfin.out.1, hfin.out.2⟩, rfl⟩
set_option maxHeartbeats 1000000 in
theorem sideOf_no (A : Option Addr) (n c : Nat) (z : Int) (w : World) (hn : n ≤ maxLen) (hz : ¬ (1 ≤ z ∧ z ≤ n)) :
    Calls Tryz.prog 47 #[.slice A n c, .int .i64 z] w fun e w' => e = .returned (.tuple #[.slice none 0 0, .bool false]) ∧ w' = w := by
  unfold maxLen at hn
  by_cases h1 : z < 1
  · have f1 : decide (z < 1) = true := decide_eq_true h1
    clear hz
    go_enter Tryz.func47, Tryz.ntmps47
    go_wp2
    go_ret2
    exact ⟨rfl, rfl⟩
  · have h2 : (n : Int) < z := by omega
    have f1 : decide (z < 1) = false := decide_eq_false h1
    have f2 : decide ((n : Int) < z) = true := decide_eq_true h2
    clear hz
    go_enter Tryz.func47, Tryz.ntmps47
    go_wp2
    go_ret2
    exact ⟨rfl, rfl⟩
end Go.Proofs.YticgjbckfpkpjaaGreat
/- Proved here, without conditions: plain facts on texts that are put behind others, as the landed union does it. -/
namespace Go.Proofs.YticgjbckfpkpjaaGreat
set_option linter.unusedVariables false

theorem closed_append (a : Txs) {b : Txs} (h : b ≠ []) : closed (a ++ b) = a ++ closed b := by
  unfold closed
  rw [List.getLast?_append]
  cases hb : b.getLast? with
  | none => exact absurd (List.getLast?_eq_none_iff.1 hb) h
  | some s =>
    simp only [Option.some_or]
    split
    · rfl
    · rw [List.dropLast_append_of_ne_nil h, List.append_assoc]
theorem closed_nil : closed [] = [] := rfl
theorem union_any_iff (ds : List Txs) : ds.any (fun x => !x.isEmpty) = true ↔ unionT ds ≠ [] := by
  rw [← List.length_pos_iff, union_len, List.length_pos_iff, List.any_eq_true]
  constructor
  · rintro ⟨x, hx, h⟩ e
    rw [List.flatten_eq_nil_iff] at e
    rw [e x hx] at h
    simp at h
  · intro h
    apply Classical.byContradiction
    intro hn
    apply h
    rw [List.flatten_eq_nil_iff]
    intro x hx
    apply Classical.byContradiction
    intro hx2
    exact hn ⟨x, hx, by cases x <;> simp_all⟩
theorem union_snoc (d : Txs) : ∀ ds : List Txs, unionT (ds ++ [d]) = (if d = [] then unionT ds else closed (unionT ds)) ++ d
  | [] => by
    simp only [List.nil_append, unionT, List.any_nil, Bool.false_eq_true, if_false, List.append_nil, closed_nil]
    split <;> rfl
  | e :: es => by
    have ih := union_snoc d es
    have hu := union_any_iff es
    rw [List.cons_append, unionT, ih, List.any_append, unionT]
    by_cases hd : d = []
    · subst hd
      simp
    · have h1 : ([d].any fun x => !x.isEmpty) = true := by simp [hd]
      rw [h1, Bool.or_true, if_pos rfl, if_neg hd, if_neg hd, ← List.append_assoc]
      congr 1
      by_cases he : (es.any fun x => !x.isEmpty) = true
      · rw [if_pos he, closed_append _ (hu.1 he)]
      · have h2 : unionT es = [] := by
          apply Classical.byContradiction
          intro h
          exact he (hu.2 h)
        rw [if_neg he, h2, closed_nil, List.append_nil, List.append_nil]
theorem union_take {ds : List Txs} {i : Nat} {d : Txs} (h : ds[i]? = some d) : unionT (ds.take (i + 1)) = (if d = [] then unionT (ds.take i) else closed (unionT (ds.take i))) ++ d := by
  rw [take_at h, union_snoc]
theorem closed_mem {d : Txs} {s : Tx} (h : s ∈ closed d) : ∃ t ∈ d, s = t ∨ s = t ++ [10] := by
  unfold closed at h
  cases hd : d.getLast? with
  | none => rw [hd] at h; exact ⟨s, h, .inl rfl⟩
  | some t =>
    rw [hd] at h
    dsimp only at h
    split at h
    · exact ⟨s, h, .inl rfl⟩
    · rcases List.mem_append.1 h with h | h
      · exact ⟨s, List.dropLast_subset d h, .inl rfl⟩
      · rw [List.mem_singleton.1 h]
        exact ⟨t, List.mem_of_getLast? hd, .inr rfl⟩
theorem union_mem {s : Tx} : ∀ {ds : List Txs}, s ∈ unionT ds → ∃ d ∈ ds, ∃ t ∈ d, s = t ∨ s = t ++ [10]
  | [], h => by simp [unionT] at h
  | d :: ds, h => by
    unfold unionT at h
    rcases List.mem_append.1 h with h | h
    · split at h
      · exact ⟨d, List.mem_cons_self .., closed_mem h⟩
      · exact ⟨d, List.mem_cons_self .., s, h, .inl rfl⟩
    · obtain ⟨e, he, r⟩ := union_mem h
      exact ⟨e, List.mem_cons_of_mem _ he, r⟩
theorem union_small {ds : List Txs} (h : ∀ d ∈ ds, ∀ s ∈ d, s.length ≤ 1000000) (i : Nat) : ∀ s ∈ unionT (ds.take i), s.length ≤ 1000001 := by
  intro s hs
  obtain ⟨d, hd, t, ht, e⟩ := union_mem hs
  have := h d (List.mem_of_mem_take hd) t ht
  rcases e with rfl | rfl
  · omega
  · simp; omega
theorem union_pre (ds : List Txs) (i : Nat) : (unionT (ds.take i)).length ≤ (unionT ds).length := by
  rw [union_len, union_len]
  conv => rhs; rw [← List.take_append_drop i ds]
  rw [List.flatten_append, List.length_append]
  omega
/-- An open list, closed: its last text's place. -/
theorem closed_set {d : Txs} {s : Tx} {m : Nat} (hm : d.length = m + 1) (hs : d[m]? = some s) : closed d = if endedB s then d else d.set m (s ++ [10]) := by
  have hl : d.getLast? = some s := by rw [List.getLast?_eq_getElem?, hm]; exact hs
  unfold closed
  rw [hl]
  dsimp only
  split
  · rfl
  · apply List.ext_getElem?
    intro j
    have hdl : d.dropLast.length = m := by simp [hm]
    rcases Nat.lt_trichotomy j m with h | h | h
    · rw [List.getElem?_append_left (by omega), List.getElem?_dropLast, if_pos (by omega), List.getElem?_set_ne (by omega)]
    · subst h
      rw [List.getElem?_append_right (by omega), hdl, Nat.sub_self, List.getElem?_set_self (by omega)]
      rfl
    · rw [List.getElem?_eq_none (by simp; omega), List.getElem?_eq_none (by simp; omega)]
theorem open_last {d : Txs} {s : Tx} {m : Nat} (hm : d.length = m + 1) (hs : d[m]? = some s) : openB d = !endedB s := by
  have hl : d.getLast? = some s := by rw [List.getLast?_eq_getElem?, hm]; exact hs
  unfold openB
  rw [hl]
end Go.Proofs.YticgjbckfpkpjaaGreat
/- Proved here: contracts of the landed package lines: ended, Open (each for strings of at most maxLen bytes); for stages behind the first: NOT beside stage 1's Lines, which has the same names. -/
namespace Go.Proofs.YticgjbckfpkpjaaGreat
open Go.RowKit
set_option linter.unusedVariables false

set_option maxHeartbeats 400000 in
theorem ended_any (s : ByteArray) (w : World) (hs : s.size ≤ maxLen) :
    Calls Tryz.prog 89 #[.string s] w fun e w' => e = .returned (.bool (endedB s.data.toList)) ∧ w = w' := by
  unfold maxLen at hs
  by_cases h : s.toList = []
  · go_enter Tryz.func89, Tryz.ntmps89
    go_wp2
    go_ret
    exact ⟨ret_bool (by rw [data_nil h]; rfl), rfl⟩
  · have h1 := size_pos h
    have h2 : (!s.toList.isEmpty) = true := by simpa using h
    go_enter Tryz.func89, Tryz.ntmps89
    go_wp2
    go_ret
    exact ⟨ret_bool (by rw [last_byte s h1 _ rfl (by omega)]), rfl⟩

set_option maxHeartbeats 400000 in
theorem Open_any (A : Option Addr) (n c B : Nat) (ss : List (List UInt8)) (w : World) (hn : n ≤ maxLen) (hs : ∀ s ∈ ss, s.length ≤ maxLen) (hA : Strs w B A n ss) :
    Calls Tryz.prog 126 #[.slice A n c] w fun e w' => e = .returned (.bool (openB ss)) ∧ w = w' := by
  unfold maxLen at hn
  have hl := hA.len
  by_cases h0 : n = 0
  · subst h0
    have hd : decide ((0 : Int) < ((0 : Nat) : Int)) = false := by decide
    go_enter Tryz.func126, Tryz.ntmps126
    go_wp2
    go_ret
    obtain rfl : ss = [] := List.eq_nil_of_length_eq_zero hl
    exact ⟨rfl, rfl⟩
  · obtain ⟨b, o, t, rfl, _, ht, hc⟩ := hA.at_ (k := n - 1) (by omega)
    have htl : t.length ≤ maxLen := hs t (List.mem_of_getElem? ht)
    have hres : Hid ((!endedB (str t).data.toList) = openB ss) := Lib.hid <| by
      rw [str_data]; unfold openB; rw [List.getLast?_eq_getElem?, hl, ht]
    have h1 : (1 : Int) ≤ n := by omega
    have hd : decide ((0 : Int) < (n : Int)) = true := by simp; omega
    go_enter Tryz.func126, Tryz.ntmps126
    go_wp2_with (go_at_call 89; refine (ended_any (str t) _ (by rw [str_size]; exact htl)).mono ?_; rintro e w' ⟨rfl, rfl⟩)
    go_ret
    exact ⟨ret_bool hres.out, rfl⟩
end Go.Proofs.YticgjbckfpkpjaaGreat
/- Proved here: the contract of the landed package pick's union, and of the pile of texts that it puts together. -/
namespace Go.Proofs.YticgjbckfpkpjaaGreat
open Go.RowKit
set_option linter.unusedVariables false

/-- The pile of texts: its block, the block of the method value that tells what was put last. -/
structure PileS (w wr : World) (v : Value) (xs : Txs) : Prop where
  box : Boxed wr w.heap.size 172 v
  fn : Boxed wr (w.heap.size + 1) 173 (.func (.func 124) #[.pointer (some ⟨w.heap.size, 0, none⟩)] #[])
  own : TxO w wr v xs
section
variable {w wr w1 w2 : World} {v v' : Value} {xs ys : Txs}
theorem pile_not {L : Nat} {t : TypeId} {u : Value} (h : Boxed wr L t u) (hT : TxO w wr v xs) (ht : t ≠ 9) : ∀ k, v.ownBlock = some k → k ≠ L := fun k e h1 => Boxed.not_row h ht hT.own (by rw [e, h1])
theorem PileS.drewN (h : PileS w wr v xs) (q : Nat) : PileS w (wr.drewN q) v xs := ⟨h.box, h.fn, h.own.own, below_drewN h.own.below q⟩
theorem PileS.put {A : Option Addr} {n c : Nat} (h : PileS w wr v xs) (hT : TxO w w2 (.slice A n c) ys) (hg : wr.grownBy w2 v.ownBlock) : Boxed w2 w.heap.size 172 v ∧ PileS w (w2.setCell ⟨w.heap.size, 0, none⟩ (.slice A n c)) (.slice A n c) ys := by
  have hb : Boxed w2 w.heap.size 172 v := h.box.kept hg fun e => pile_not h.box h.own (by decide) _ e.symm rfl
  have hf := h.fn.kept hg fun e => pile_not h.fn h.own (by decide) _ e.symm rfl
  have hs : But (fun k => k = w.heap.size) w2 (w2.setCell ⟨w.heap.size, 0, none⟩ (.slice A n c)) := But.setCell (F := fun j => j = w.heap.size) w2 (p := ⟨w.heap.size, 0, none⟩) rfl _
  have hlt := hf.lt
  refine ⟨hb, hb.set _, (hs.block _ hlt (by omega)).trans hf, ownsRow_kept hT.own fun k e => hs.block k (hT.own.lt k e).2 (pile_not hb hT (by decide) k e), hT.below.trans (hs.below hT.below.size (by rintro k rfl; exact Nat.le_refl _))⟩
end

set_option maxRecDepth 100000 in
set_option maxHeartbeats 1000000 in
theorem pilePut_any (A : Option Addr) (n c B : Nat) (v : Value) (xs ys : Txs) (w wr : World) (hP : PileS w wr v xs) (hA : Strs wr B A n ys) (hm : xs.length + n ≤ 1000000000) :
    Calls Tryz.prog 127 #[.pointer (some ⟨w.heap.size, 0, none⟩), .slice A n c] wr fun e w' => e = .returned (.tuple #[]) ∧ ∃ v', PileS w w' v' (xs ++ ys) := by
  obtain ⟨i0, hi, hzz⟩ := Option.map_eq_some_iff.1 infoStr
  simp only [Prod.mk.injEq] at hzz
  obtain ⟨hz0, hz1, hz2⟩ := hzz
  have hl := Lib.hid hA.len
  have hle : Hid (xs.length + n ≤ maxLen ∧ (xs.length + n) * 16 ≤ 140737488355328) := Lib.hid ⟨by unfold maxLen; omega, by omega⟩
  have x0 := hP.box.cell
  have hown := hP.own.own
  have hsz := hP.own.below.size
  have hPh := Lib.hid hP
  have hAh := Lib.hid hA
  clear hP hA hm
  go_enter Tryz.func127, Tryz.ntmps127
  go_wp2_with (at_builtin; refine wpList_append_reads _ rfl _ _ 22 rfl w.heap.size 9 i0 (.string ByteArray.empty) 16 Tryz.underlying22 hi hz0 hz1 hz2 rfl v xs.length _ rfl hown B A n c _ rfl hAh.out (strs_one _) hle.out.1 hle.out.2 hsz ?_; intro v' w2 hown2 hg2; have hT := hPh.out.own.put hl.out hown2 hg2; obtain ⟨A2, c2, rfl, -, -, -⟩ := own_slice hown2; have hfin := Lib.hid (hPh.out.put hT hg2); have x1 := hfin.out.1.cell; have x2 := hfin.out.1.frozen; clear hT x0)

  go_end0
  exact ⟨rfl, _, hfin.out.2⟩

set_option maxRecDepth 100000 in
set_option maxHeartbeats 1000000 in
theorem pileLast_any (g m cap : Nat) (w : World) (L : Nat) (hm : m < maxLen) (hL : Boxed w L 172 (.slice (some ⟨g, 0, none⟩) (m + 1) cap)) :
    Calls Tryz.prog 124 #[.pointer (some ⟨L, 0, none⟩)] w fun e w' => e = .returned (.pointer (some ⟨g, m, none⟩)) ∧ ∃ q, w' = w.drewN q := by
  obtain ⟨N, hN⟩ : ∃ N, m + 1 = N := ⟨_, rfl⟩
  rw [hN] at hL
  unfold maxLen at hm
  have x0 := hL.cell
  have e0 : ((N : Int) == 0) = false := by simp; omega
  have e1 : (N : Int) - 1 = (m : Int) := by omega
  have e2 : IntKind.i64.wrap ((N : Int) - 1) = (m : Int) := by rw [e1]; exact IntWalk.i64_in _ (by omega)
  have i1 : (0 : Int) ≤ (m : Int) := by omega
  have i2 : (m : Int) < (N : Int) := by omega
  clear hL hN
  go_enter Tryz.func124, Tryz.ntmps124
  go_wp2
  go_quiet (fail)
  go_wp2
  go_ret
  exact ⟨by simp, nq, rfl⟩
end Go.Proofs.YticgjbckfpkpjaaGreat
/- Proved here: the contract of the landed package pick's union. -/
namespace Go.Proofs.YticgjbckfpkpjaaGreat
open Go.RowKit
set_option linter.unusedVariables false

theorem PileS.stored {w wr : World} {g n cap : Nat} {xs : Txs} (h : PileS w wr (.slice (some ⟨g, 0, none⟩) n cap) xs) (hn : xs.length = n) (m : Nat) (t : Tx) : PileS w (wr.setCell ⟨g, m, none⟩ (.string (str t))) (.slice (some ⟨g, 0, none⟩) n cap) (xs.set m t) := by
  have hown := h.own.own
  rw [hn] at hown
  obtain ⟨h1, h2⟩ := hown.stored m (.string (str t))
  have hlt := hown.lt g rfl
  refine ⟨h.box.kept h2 fun e => pile_not h.box h.own (by decide) g rfl (by injection e with e; exact e.symm), h.fn.kept h2 fun e => pile_not h.fn h.own (by decide) g rfl (by injection e with e; exact e.symm), ?_, h.own.below.grown h2 h.own.below.size fun k e => by injection e with e; omega⟩
  rw [List.length_set, hn, List.map_set]
  exact h1

set_option maxRecDepth 100000 in
set_option maxHeartbeats 4000000 in
theorem unPut_any (A : Option Addr) (n c : Nat) (v : Value) (xs ys : Txs) (w wr : World) (hP : PileS w wr v xs) (hn : n ≤ 1000000) (hA : Strs wr w.heap.size A n ys) (hm : xs.length + n ≤ 1000000000) (hs : ∀ s ∈ xs, s.length ≤ 1000001) :
    Calls Tryz.prog 125 #[.slice A n c, .pointer (some ⟨w.heap.size, 0, none⟩), .pointer (some ⟨w.heap.size + 1, 0, none⟩)] wr fun e w' => e = .returned (.tuple #[]) ∧ ∃ v', PileS w w' v' ((if ys = [] then xs else closed xs) ++ ys) := by
  obtain ⟨zs, hzs⟩ : ∃ zs, (if ys = [] then xs else closed xs) ++ ys = zs := ⟨_, rfl⟩
  have hzsh := Lib.hid hzs
  rw [hzs]
  clear hzs
  have x0 := hP.box.cell
  have x1 := hP.fn.cell
  have hl := hA.len
  have hlt := hP.fn.lt
  have hPh := Lib.hid hP
  have hput : Hid (∀ (W : World) (v1 : Value) (xs1 : Txs), PileS w W v1 xs1 → (∀ q : Addr, q.block < w.heap.size → W.cell? q = wr.cell? q) → xs1.length = xs.length → Calls Tryz.prog 127 #[.pointer (some ⟨w.heap.size, 0, none⟩), .slice A n c] W fun e w' => e = .returned (.tuple #[]) ∧ ∃ v', PileS w w' v' (xs1 ++ ys)) :=
    Lib.hid fun W v1 xs1 h1 h2 h3 => pilePut_any A n c w.heap.size v1 xs1 ys w W h1 (Reads.keep hA h2) (by omega)
  clear hP hA
  by_cases h0 : n = 0
  · subst h0
    have hys : ys = [] := List.eq_nil_of_length_eq_zero hl
    have hyh := Lib.hid hys
    have hd : decide ((0 : Int) < ((0 : Nat) : Int)) = false := by decide
    have hQ := Lib.hid (hput.out wr v xs hPh.out (fun _ _ => rfl) rfl)
    clear hys hl
    go_enter Tryz.func125, Tryz.ntmps125
    go_wp2_with (go_at_call 127; refine hQ.out.mono ?_; rintro e w1 ⟨rfl, v1, hP1⟩; have hP1h := Lib.hid hP1; clear hP1)
    go_end0
    exact ⟨rfl, v1, by rw [← hzsh.out, if_pos hyh.out]; exact hP1h.out⟩
  · have hys : ys ≠ [] := by rintro rfl; simp at hl; omega
    have hd : decide ((0 : Int) < (n : Int)) = true := by simp; omega
    have hyh := Lib.hid hys
    obtain ⟨A2, c2, hv, hc1, hc2, hR⟩ := own_slice hPh.out.own.own
    have hO := Lib.hid (Open_any A2 xs.length c2 _ xs wr (Nat.le_trans hc1 hc2) (fun s h => Nat.le_trans (hs s h) (by unfold maxLen; omega)) hR)
    obtain ⟨N, hN⟩ : ∃ N, xs.length = N := ⟨_, rfl⟩
    rw [hN] at hv hO hR
    subst hv
    clear hys hl
    cases hop : openB xs
    · have hcl := Lib.hid (closed_same hop)
      have hQ := Lib.hid (hput.out wr _ xs hPh.out (fun _ _ => rfl) rfl)
      rw [hop] at hO
      clear hop hR hc1 hc2 hN
      go_enter Tryz.func125, Tryz.ntmps125
      go_wp2_with (first
        | (go_at_call 126; refine hO.out.mono ?_; rintro e w1 ⟨rfl, rfl⟩)
        | (go_at_call 127; refine hQ.out.mono ?_; rintro e w2 ⟨rfl, v2, hP2⟩; have hP2h := Lib.hid hP2; clear hP2))
      go_end0
      exact ⟨rfl, v2, by rw [← hzsh.out, if_neg hyh.out, hcl.out]; exact hP2h.out⟩
    · obtain ⟨m, hmN⟩ : ∃ m, m + 1 = N := by
        rcases N with _ | m
        · have : xs = [] := List.eq_nil_of_length_eq_zero hN
          subst this
          simp [openB] at hop
        · exact ⟨m, rfl⟩
      have hown := hPh.out.own.own
      rw [hN] at hown
      obtain ⟨g, hg⟩ : ∃ g, A2 = some ⟨g, 0, none⟩ := by
        subst hmN
        obtain ⟨g, cap, hv⟩ := ownsRow_succ hown
        injection hv with hv1 hv2 hv3
        exact ⟨g, hv1⟩
      subst hg
      have hNm : xs.length = m + 1 := by omega
      have hsm : xs[m]? = some (xs[m]'(by omega)) := List.getElem?_eq_getElem _
      obtain ⟨s, hse⟩ : ∃ s, xs[m]'(by omega) = s := ⟨_, rfl⟩
      rw [hse] at hsm
      have hend : endedB s = false := by have := open_last hNm hsm; rw [hop] at this; simpa using this.symm
      have hcl : closed xs = xs.set m (s ++ [10]) := by rw [closed_set hNm hsm, hend]; rfl
      have hclh := Lib.hid hcl
      have x2 : wr.cell? ⟨g, m, none⟩ = some (.string (str s)) := by
        rw [hown.cellAt m (by omega), List.getElem?_map, hsm]; rfl
      have x3 : wr.frozen? ⟨g, m, none⟩ = false := hown.frozenAt m
      have hsz : (str s).size ≤ 1000001 := by rw [str_size]; exact hs s (List.mem_of_getElem? hsm)
      have hcat : ¬ 9223372036854775807 < (str s).size + 1 := by omega
      have hgl := hown.lt g rfl
      have hglt := hgl.2
      have hge := hgl.1
      have hLa := Lib.hid (pileLast_any g m c2 wr w.heap.size (by unfold maxLen; omega) (by rw [hmN]; exact hPh.out.box))
      have hQ : Hid (∀ q, Calls Tryz.prog 127 #[.pointer (some ⟨w.heap.size, 0, none⟩), .slice A n c] ((wr.drewN q).setCell ⟨g, m, none⟩ (.string (str s ++ ⟨#[10]⟩))) fun e w' => e = .returned (.tuple #[]) ∧ ∃ v', PileS w w' v' (closed xs ++ ys)) := Lib.hid (fun q => by
        rw [hcl, str_feed]
        refine hput.out _ _ _ ((hPh.out.drewN q).stored hN m (s ++ [10])) (fun p hp => ?_) (by simp)
        exact (World.cell?_of_block (w := wr.drewN q) (Below.heap_setCell _ _ _ _ (fun e => by have : p.block = g := e; omega))).trans rfl)
      rw [hop] at hO
      clear hop hR hc1 hc2 hN hown hsm hse hend hcl hs hm hgl hNm hmN
      go_enter Tryz.func125, Tryz.ntmps125
      go_wp2_with (first
        | (go_at_call 126; refine hO.out.mono ?_; rintro e w1 ⟨rfl, rfl⟩)
        | (go_at_call 124; refine hLa.out.mono ?_; rintro e w1 ⟨rfl, q, rfl⟩)
        | (go_at_call 127; refine (hQ.out _).mono ?_; rintro e w2 ⟨rfl, v2, hP2⟩; have hP2h := Lib.hid hP2; clear hP2))
      go_end0
      exact ⟨rfl, v2, by rw [← hzsh.out, if_neg hyh.out]; exact hP2h.out⟩

theorem PileS.start (w : World) : PileS w ((w.alloc (.cells #[.slice none 0 0] 172)).alloc (.cells #[.func (.func 124) #[.pointer (some ⟨w.heap.size, 0, none⟩)] #[]] 173)) (.slice none 0 0) [] := by
  have h := two_a w (.cells #[.slice none 0 0] 172) (.cells #[.func (.func 124) #[.pointer (some ⟨w.heap.size, 0, none⟩)] #[]] 173)
  exact ⟨h.1, h.2, World.ownsRow_nil _ _ _ _, ((Below.refl _ w).alloc (Nat.le_refl _) _).alloc (by simp) _⟩

set_option maxRecDepth 100000 in
set_option maxHeartbeats 4000000 in
theorem union_any (A : Option Addr) (n c : Nat) (rows : List Slc) (ds : List Txs) (w : World) (hn : n ≤ 100000) (hln : ∀ d ∈ ds, d.length ≤ 1000000) (htx : ∀ d ∈ ds, ∀ s ∈ d, s.length ≤ 1000000) (hsum : (unionT ds).length ≤ 999000000) (hA : RowsT w w.heap.size A n rows ds) :
    Calls Tryz.prog 115 #[.slice A n c] w fun e w' => OwnOut w w' e (unionT ds) := by
  have hl := hA.len
  have hAh := Lib.hid hA
  have hlh := Lib.hid hl
  have hsumh := Lib.hid hsum
  have hlnh := Lib.hid hln
  have htxh := Lib.hid htx
  have hst : Hid (PileS w _ (.slice none 0 0) (unionT (ds.take 0))) := Lib.hid (PileS.start w)
  clear hA hsum hln htx hl
  go_enter Tryz.func115, Tryz.ntmps115
  go_wp2
  go_loopw [7, 12] (fun _ s12 wr => ∃ (i : Nat) (v : Value), i ≤ n ∧ s12 = .int .i64 i ∧ Hid (PileS w wr v (unionT (ds.take i)))) (fun _ s12 _ => n - (intOf s12).toNat)
  case atStart => exact ⟨0, _, Nat.zero_le _, rfl, hst⟩
  case round =>
    obtain ⟨i, v, hin, rfl, hP⟩ := hrel
    obtain ⟨wo, rfl⟩ : ∃ wo : World, wo = wr := ⟨_, rfl⟩
    clear hst
    by_cases hlt : i < n
    · obtain ⟨b, o, A1, n1, c1, d, rfl, hb, hd, -, hc, hnc, hcm, hS⟩ := (hAh.out.below hP.out.own.below).at_ (k := i) hlt
      have i1 : (0 : Int) ≤ (i : Int) := by omega
      have i2 : (i : Int) < (n : Int) := by omega
      have hdl := hlnh.out d (List.mem_of_getElem? hd)
      have hd1 := hS.len
      have hpre := union_pre ds i
      have hQ := Lib.hid (unPut_any A1 n1 c1 v (unionT (ds.take i)) d w wo hP.out (by omega) hS (by have := hsumh.out; omega) (union_small htxh.out i))
      have hstep := Lib.hid (union_take hd)
      clear hd hS hdl hd1 hpre hnc hcm
      go_wp2_with (go_at_call 125; refine hQ.out.mono ?_; rintro e w1 ⟨rfl, v1, hP1⟩; have hP1h := Lib.hid hP1; clear hP1)
      go_roundw
      case rel => exact ⟨i + 1, v1, by omega, by go_num, Lib.hid (by rw [hstep.out]; exact hP1h.out)⟩
      case measure => simp [intOf]; omega
    · obtain rfl : i = n := by omega
      have ht : Hid (ds.take i = ds) := Lib.hid (List.take_of_length_le (by rw [hlh.out]; exact Nat.le_refl _))
      have x0 := hP.out.box.cell
      go_wp2
      go_ret
      exact ⟨v, rfl, by have := hP.out.own; rwa [ht.out] at this⟩
end Go.Proofs.YticgjbckfpkpjaaGreat
